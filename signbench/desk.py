"""The desk: a bench that is told rows of words and answers with texts."""

from signbench.bench import Bench
from signbench.book import Book
from signbench.choices import picked
from signbench.errors import NoPlace, NoSaying, NoTable, NoText
from signbench.fields import is_field
from signbench.journal import come_up, read_dotted, read_number, written
from signbench.keys import is_table
from signbench.nets import END_KIND, LAST_RATE
from signbench.texts import NONE, read_keys_text, read_wish, read_word, show_cutting, show_numbers, show_word
from signbench.wishes import is_stretch

DONE = "ok"
EMPTY = "none"
MOST_AHEAD = 20
MOST_SIZE = 9
MOST_GUESSES = 20
PLAIN_DEEDS = {
    "end": "end", "back": "back", "commit": "commit", "drop": "give up", "close": "close", "open": "open",
    "reread": "read back",
}
# The rows that are told ahead of the bench; all others are told behind its beginning.
AHEAD = ("row", "word", "rate", "field", "begin")
# How many words stand behind the first one, where there are any.
MANY_WORDS = {
    "row": 3, "word": 1, "rate": 3, "field": 2, "press": 1, "wish": 1, "lift": 1, "shown": 1, "choose": 2, "put": 2,
    "out": 2, "pick": 5, "go": 1, "choices": 2, "guesses": 1,
}


def number_in(word):
    """The number that a word is."""
    number = read_number(word)
    if number is None:
        raise NoSaying("this is no number")
    return number


def number_up_to(word, low, high):
    """The number from low to high that a word is."""
    number = number_in(word)
    if not low <= number <= high:
        raise NoSaying("the number is beyond its bounds")
    return number


def numbers_in(word):
    """The row of numbers that a word is."""
    row = () if word == NONE else read_dotted(word)
    if row is None:
        raise NoSaying("this is no row of numbers")
    return row


def keys_in(word):
    """The row of keys that a word is."""
    try:
        return tuple(read_keys_text(word))
    except NoText:
        raise NoSaying("these are no keys") from None


def say_row(desk, words):
    """A row comes into the table."""
    table = desk.table + [(keys_in(words[1]), numbers_in(words[2]), keys_in(words[3]))]
    if not is_table(table):
        raise NoTable("with this row it would be no table")
    desk.table = table
    return DONE


def say_word(desk, words):
    """A word comes into the book."""
    desk.book.put(read_word(words[1]))
    return DONE


def say_rate(desk, words):
    """A rate from kind to kind."""
    ahead = number_up_to(words[1], 0, END_KIND)
    behind = number_up_to(words[2], 0, END_KIND)
    desk.rates[ahead][behind] = number_up_to(words[3], 0, LAST_RATE)
    return DONE


def say_field(desk, words):
    """The field."""
    field = (number_in(words[1]), numbers_in(words[2]))
    if not is_field(field):
        raise NoSaying("this is no field")
    desk.field = field
    return DONE


def say_learnt(desk, text):
    """The commits learnt ahead, in the place of those before."""
    desk.ahead = come_up(text)[:MOST_AHEAD]
    return str(len(desk.ahead))


def say_begin(desk, words):
    """The bench is made."""
    rates = tuple([tuple(row) for row in desk.rates])
    desk.bench = Bench(desk.table, desk.book, rates, desk.field, desk.ahead)
    return DONE


def say_press(desk, words):
    """Keys are pressed one by one, until one is refused."""
    keys = keys_in(words[1])
    if not keys:
        raise NoSaying("there is no key to press")
    for key in keys:
        desk.bench.do(("key", key))
    return DONE


def say_plain_deed(desk, words):
    """A deed that is its word alone."""
    return done(desk, (PLAIN_DEEDS[words[0]],))


def say_wish(desk, words):
    """A wish is wished or lifted."""
    return done(desk, (words[0], read_wish(many_marked(desk), words[1])))


def say_shown(desk, words):
    """Another cutting is shown."""
    return done(desk, ("shown", number_in(words[1])))


def say_two_numbers(desk, words):
    """A deed of the field that has two numbers."""
    return done(desk, (words[0], number_in(words[1]), number_in(words[2])))


def say_put(desk, words):
    """Signs come into the field."""
    return done(desk, ("put", number_in(words[1]), numbers_in(words[2])))


def say_pick(desk, words):
    """The wish that a choice be held."""
    begin, end, page, figure = [number_in(words[at]) for at in (1, 2, 4, 5)]
    size = number_up_to(words[3], 1, MOST_SIZE)
    signs = picked(choices_between(desk, begin, end), size, page, figure)
    return done(desk, ("wish", ("held", begin, end, signs)))


def done(desk, deed):
    """The bench does a deed."""
    desk.bench.do(deed)
    return DONE


def many_marked(desk):
    """How many sounds are marked."""
    return len(desk.bench.marked())


def choices_between(desk, begin, end):
    """The choices of the marked sounds from a place to another one."""
    if not is_stretch(begin, end, many_marked(desk)):
        raise NoPlace("this is no stretch of the marked sounds")
    return desk.bench.choices_of(begin, end)


def say_undo(desk, words):
    """To the node above."""
    return str(desk.bench.undo())


def say_again(desk, words):
    """To the node under it where one stood last."""
    return str(desk.bench.again())


def say_go(desk, words):
    """To any node."""
    return str(desk.bench.go(number_in(words[1])))


def say_text(desk, words):
    """The standing of the field."""
    signs, begin, end, marked = desk.bench.field_now()
    stretch = NONE if marked is None else f"{marked[0]}:{marked[1]}"
    return f"{show_numbers(signs)}|{begin}|{end}|{stretch}"


def say_cutting(desk, words):
    """The shown cutting."""
    return show_cutting(desk.bench.shown())


def say_choices(desk, words):
    """The choices of a stretch."""
    return " ".join([show_numbers(signs) for signs in choices_between(desk, number_in(words[1]), number_in(words[2]))])


def say_guesses(desk, words):
    """Words that begin with all marked sounds."""
    found = desk.bench.guesses_of(number_up_to(words[1], 0, MOST_GUESSES))
    return " ".join([show_word(word) for word in found]) if found else EMPTY


def say_ledger(desk, words):
    """All sounds that came."""
    found = desk.bench.ledger()
    return " ".join([f"{number}:{sound}:{place}" for number, sound, place in found]) if found else EMPTY


def say_journal(desk, words):
    """The journal of all commits."""
    commits = desk.bench.all_commits()
    return written(commits) if commits else EMPTY


SAYINGS = {
    "row": say_row, "word": say_word, "rate": say_rate, "field": say_field, "begin": say_begin, "press": say_press,
    "end": say_plain_deed, "back": say_plain_deed, "wish": say_wish, "lift": say_wish, "shown": say_shown,
    "commit": say_plain_deed, "drop": say_plain_deed, "close": say_plain_deed, "open": say_plain_deed,
    "choose": say_two_numbers, "put": say_put, "out": say_two_numbers, "reread": say_plain_deed, "pick": say_pick,
    "undo": say_undo, "again": say_again, "go": say_go, "text": say_text, "cutting": say_cutting,
    "choices": say_choices, "guesses": say_guesses, "ledger": say_ledger, "journal": say_journal,
}


class Desk:
    """What the bench is to be made of, and then the bench."""

    def __init__(self):
        self.table = []
        self.book = Book()
        self.rates = [[0 for behind in range(END_KIND + 1)] for ahead in range(END_KIND + 1)]
        self.field = (0, ())
        self.ahead = []
        self.bench = None

    def say(self, row):
        """Tells the desk a row, any thing; its answer."""
        if not isinstance(row, str):
            raise NoSaying("this is no text")
        words = row.split(" ")
        begun = self.bench is not None
        if words[0] == "learnt" and len(words) > 1 and not begun:
            return say_learnt(self, row[len("learnt "):])
        if words[0] not in SAYINGS or begun == (words[0] in AHEAD):
            raise NoSaying("there is no such row, or not now")
        if len(words) != 1 + MANY_WORDS.get(words[0], 0):
            raise NoSaying("this row has other words")
        saying = SAYINGS[words[0]]
        return saying(self, words)
