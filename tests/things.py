"""What several tests need: wrong things, and an endless row of numbers."""


def other_kinds(thing):
    """Things of another kind that look much like this one."""
    yield None
    yield str(thing)
    yield [thing]
    yield (thing,)
    if isinstance(thing, list):
        yield tuple(thing)
    elif isinstance(thing, tuple):
        yield list(thing)
    else:
        yield True
        yield False
        yield -1
        yield 10 ** 59


def wrong_things():
    """Things that are of no kind that the document tells anything of."""
    return [
        None, True, False, 0, 1, -1, 10 ** 59, "", "a", "[]", "()", [[]], [()], [None], ([],),
        [True], (False,), [[[[[[[[]]]]]]]], (((((((()),),),),),),), [1] * 19000, (0,) * 19000,
        ["a", 0, None, (1, [2])], ("a", 0, None, (1, [2])),
    ]


class Numbers:
    """An endless row of numbers that is the same in every run."""

    def __init__(self, seed):
        self.state = seed

    def below(self, bound):
        self.state = (self.state * 6364136223846793005 + 1442695040888963407) % 2 ** 64
        return (self.state >> 33) % bound

    def row(self, fewest, most, bound):
        return tuple(self.below(bound) for each in range(fewest + self.below(most - fewest + 1)))

    def table(self, many, last_key, last_sound):
        """A table of at most so many rows, of keys and sounds up to these."""
        found = {}
        for each in range(many):
            keys = self.row(1, 4, last_key + 1)
            found[keys] = (keys, self.row(0, 3, last_sound + 1), self.row(0, len(keys) - 1, last_key + 1))
        return list(found.values())
