"""All refusals of the program: one base, the others each straight under it."""


class BenchError(ValueError):
    """Any refusal."""


class NoWord(BenchError):
    """What is put into a book is no word."""


class Twice(BenchError):
    """A word of the same sounds, signs and kind is there already."""


class TooMany(BenchError):
    """There would be more than there is room for."""


class Missing(BenchError):
    """No word stands by these sounds, signs and kind."""


class NoPlace(BenchError):
    """There is no such place."""


class NoChoice(BenchError):
    """There is no such choice."""


class NoMark(BenchError):
    """Nothing is marked."""


class Marked(BenchError):
    """What is to be changed is marked."""


class Barred(BenchError):
    """A sign is barred from the field."""


class TooLong(BenchError):
    """The field would have more signs than its limit."""


class NoStanding(BenchError):
    """A thing is no standing of the field."""


class NoDeed(BenchError):
    """A thing is no deed."""


class Full(BenchError):
    """Too many letters are unanswered."""


class NoNode(BenchError):
    """There is no such node."""


class NoText(BenchError):
    """A thing is no text, or none that can be read."""


class Nothing(BenchError):
    """There is nothing to which this could be done."""


class NoWish(BenchError):
    """A thing is no wish."""


class Fight(BenchError):
    """A wish fights with one that stands: the value other."""

    def __init__(self, other):
        BenchError.__init__(self, "the wish fights with one that stands")
        self.other = other


class NoCutting(BenchError):
    """There is no such cutting."""


class Waits(BenchError):
    """Keys still wait, or sounds are still marked."""


class NoTurn(BenchError):
    """What is chosen can't be read back."""


class NoTable(BenchError):
    """The table of keys would be none."""


class NoSaying(BenchError):
    """A thing is none of the rows that a desk is told."""
