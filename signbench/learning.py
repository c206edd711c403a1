"""Commits, what is learnt from them, the words they make, and the net of a book, commits and sounds."""

from signbench.book import LAST_WORD_KIND, LAST_WORD_SIGN, MOST_WORD_SIGNS, MOST_WORD_SOUNDS
from signbench.kinds import LAST_SOUND, is_row
from signbench.nets import MOST_PLACES, is_way

MADE_WORD_COST = 1000
FIRST_PLAIN_SIGN = 1000
PLAIN_KIND = 8
PLAIN_COST = 1000
PLAIN_COST_A_SOUND = 1500
LESS_EACH_TIME = 50
MOST_TIMES = 10


def is_commit(thing):
    """Whether a thing is a commit (sounds, cutting, wished)."""
    if not isinstance(thing, tuple) or len(thing) != 3:
        return False
    sounds, cutting, wished = thing
    if not is_row(sounds, 1, MOST_PLACES, LAST_SOUND) or not isinstance(wished, bool):
        return False
    return isinstance(cutting, tuple) and is_way(cutting, len(sounds))


def learnt(commits):
    """The sorted (sounds, signs, many, last) of all pieces in a list of commits."""
    counted = {}
    for number, (sounds, cutting, wished) in enumerate(commits, start=1):
        begin = 0
        for end, signs, kind, cost in cutting:
            name = (sounds[begin:end], signs)
            many = counted[name][0] if name in counted else 0
            counted[name] = (many + 1, number)
            begin = end
    return sorted([name + found for name, found in counted.items()])


def times_learnt(commits):
    """By (sounds, signs) how many times they are learnt."""
    return {(sounds, signs): many for sounds, signs, many, last in learnt(commits)}


def made_words(commits):
    """The words that a list of commits makes, sorted, each once."""
    return sorted({made_word(commit) for commit in commits if makes_word(commit)})


def makes_word(commit):
    """Whether a commit makes a word."""
    sounds, cutting, wished = commit
    if not wished or not 2 <= len(cutting) <= 4 or len(sounds) > MOST_WORD_SOUNDS:
        return False
    signs = signs_of(cutting)
    if len(signs) > MOST_WORD_SIGNS or max(signs) > LAST_WORD_SIGN:
        return False
    return cutting[-1][2] <= LAST_WORD_KIND


def made_word(commit):
    """The word that a commit makes."""
    sounds, cutting, wished = commit
    return (sounds, signs_of(cutting), cutting[-1][2], MADE_WORD_COST)


def signs_of(cutting):
    """All signs of a cutting's pieces, in order."""
    return tuple([sign for piece in cutting for sign in piece[1]])


def words_of(book, commits):
    """All words of a book, and the made ones that the book hasn't."""
    made = [word for word in made_words(commits) if book.cost_of(word[0], word[1], word[2]) is None]
    return book.words() + made


def plain_signs(sounds):
    """The plain signs of a tuple of sounds."""
    return tuple([FIRST_PLAIN_SIGN + sound for sound in sounds])


def plain_word(sounds):
    """What stands, formed like a word, for a tuple of sounds that are written by their plain signs."""
    return (sounds, plain_signs(sounds), PLAIN_KIND, PLAIN_COST + PLAIN_COST_A_SOUND * len(sounds))


def lessened_cost(word, times):
    """The cost of a word, made less by how many times its sounds with its signs are learnt."""
    many = min(MOST_TIMES, times.get(word[:2], 0))
    return max(0, word[3] - LESS_EACH_TIME * many)


def net_of(book, commits, sounds):
    """The net of a book, commits and a list of sounds."""
    words = words_of(book, commits)
    times = times_learnt(commits)
    return [pieces_at(words, times, tuple(sounds), place) for place in range(len(sounds))]


def pieces_at(words, times, sounds, place):
    """The pieces, of words and plain ones, that begin at a place of a tuple of sounds."""
    found = [word for word in words if sounds[place:place + len(word[0])] == word[0]]
    found.extend([plain_word(sounds[place:end]) for end in range(place + 1, len(sounds) + 1)])
    return sorted([(place + len(word[0]), word[1], word[2], lessened_cost(word, times)) for word in found])
