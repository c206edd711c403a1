"""The word book: words put in, taken out and told."""

from signbench.errors import Missing, NoWord, TooMany, Twice
from signbench.kinds import LAST_SOUND, is_row, is_whole

MOST_WORD_SOUNDS = 6
MOST_WORD_SIGNS = 4
LAST_WORD_SIGN = 999
LAST_WORD_KIND = 7
LAST_WORD_COST = 9999
MOST_WORDS = 60


def is_word(thing):
    """Whether a thing is a word (sounds, signs, kind, cost)."""
    if not isinstance(thing, tuple) or len(thing) != 4:
        return False
    sounds, signs, kind, cost = thing
    if not is_row(sounds, 1, MOST_WORD_SOUNDS, LAST_SOUND) or not is_row(signs, 1, MOST_WORD_SIGNS, LAST_WORD_SIGN):
        return False
    return is_whole(kind, 0, LAST_WORD_KIND) and is_whole(cost, 0, LAST_WORD_COST)


class Book:
    """At most 60 words, no two of the same sounds, signs and kind."""

    def __init__(self):
        self.costs = {}

    def put(self, word):
        """Puts a word in."""
        if not is_word(word):
            raise NoWord("this is no word")
        if word[:3] in self.costs:
            raise Twice("a word of these sounds, signs and kind is in the book")
        if len(self.costs) >= MOST_WORDS:
            raise TooMany("the book is full")
        self.costs[word[:3]] = word[3]

    def take(self, sounds, signs, kind):
        """Takes the word of these sounds, signs and kind out."""
        if (sounds, signs, kind) not in self.costs:
            raise Missing("no word of these sounds, signs and kind is in the book")
        self.costs.pop((sounds, signs, kind))

    def words(self):
        """All words, sorted."""
        return sorted([name + (cost,) for name, cost in self.costs.items()])

    def cost_of(self, sounds, signs, kind):
        """The cost of the word of these sounds, signs and kind; None where there is none."""
        return self.costs.get((sounds, signs, kind))

    def standing(self, sounds, place):
        """All words that stand in a list of sounds from a place on, sorted."""
        rest = tuple(sounds[place:])
        return [word for word in self.words() if rest[:len(word[0])] == word[0]]

    def begun(self, sounds):
        """All words whose sounds begin with a tuple of sounds, or are these, sorted."""
        return [word for word in self.words() if word[0][:len(sounds)] == sounds]

    def twin(self):
        """A book of its own with the same words."""
        book = Book()
        book.costs = dict(self.costs)
        return book
