"""Numbers, keys, words, cuttings and wishes written as texts, and keys, words and wishes read again."""

from signbench.book import is_word
from signbench.errors import NoText
from signbench.journal import dotted, piece_text, read_dotted, read_number
from signbench.wishes import is_wish

LETTERS = "abcdefghijklmnopqrstuvwxyz"
NONE = "-"
MOST_KEYS = 60


def show_numbers(row):
    """A row of numbers."""
    return dotted(row) if row else NONE


def show_keys(row):
    """A row of keys."""
    return "".join([LETTERS[key] for key in row]) if row else NONE


def show_word(word):
    """A word as SOUNDS/SIGNS/KIND/COST."""
    sounds, signs, kind, cost = word
    return f"{show_numbers(sounds)}/{show_numbers(signs)}/{kind}/{cost}"


def show_cutting(cutting):
    """A cutting as its pieces END:SIGNS:KIND:COST."""
    return " ".join([piece_text(piece) for piece in cutting]) if cutting else NONE


def show_wish(wish):
    """A wish as its word and its numbers, the signs of a held one as a row."""
    return ":".join([show_numbers(part) if isinstance(part, tuple) else str(part) for part in wish])


def read_keys_text(text):
    """The list of keys that are written so."""
    refuse_no_text(text)
    if text == NONE:
        return []
    if not 1 <= len(text) <= MOST_KEYS or not all([sign in LETTERS for sign in text]):
        raise NoText("no keys are written so")
    return [LETTERS.index(sign) for sign in text]


def read_word(text):
    """The word that is written so."""
    refuse_no_text(text)
    parts = text.split("/")
    word = tuple([read_dotted(part) for part in parts[:2]]) + tuple([read_number(part) for part in parts[2:]])
    if not is_word(word):
        raise NoText("no word is written so")
    return word


def read_wish(n, text):
    """The wish for n places that is written so."""
    refuse_no_text(text)
    parts = text.split(":")
    numbers = tuple([read_number(part) for part in parts[1:3]])
    wish = (parts[0],) + numbers + tuple([read_dotted(part) for part in parts[3:]])
    if not is_wish(n, wish):
        raise NoText("no wish for so many places is written so")
    return wish


def refuse_no_text(thing):
    """Refuses what is no text."""
    if not isinstance(thing, str):
        raise NoText("this is no text")
