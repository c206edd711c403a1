"""What several tests need: wrong things, whose lists are whose, and an endless row of numbers."""

import contextlib
import copy
import signal

from signbench.book import Book


def other_kinds(thing):
    """Things of another kind that look much like this one."""
    yield None
    yield str(thing)
    yield [thing]
    yield (thing,)
    if isinstance(thing, list):
        yield tuple(thing)
    elif isinstance(thing, tuple):
        yield list(thing)
    else:
        yield True
        yield False
        yield -1
        yield 10 ** 59


def wrong_things():
    """Things that are of no kind that the document tells anything of."""
    return [
        None, True, False, 0, 1, -1, 10 ** 59, "", "a", "[]", "()", [[]], [()], [None], ([],),
        [True], (False,), [[[[[[[[]]]]]]]], (((((((()),),),),),),), [1] * 19000, (0,) * 19000,
        ["a", 0, None, (1, [2])], ("a", 0, None, (1, [2])),
    ]


def book_of(*words):
    """A book of these words."""
    book = Book()
    for word in words:
        book.put(word)
    return book


def spoilings(thing):
    """The thing with one part of it, at any depth, put otherwise, left out or put in twice."""
    yield from other_kinds(thing)
    if not isinstance(thing, (list, tuple)):
        if isinstance(thing, int) and not isinstance(thing, bool):
            yield thing + 1
            yield thing - 1
        return
    kind = type(thing)
    for at, part in enumerate(thing):
        yield thing[:at] + thing[at + 1:]
        yield thing[:at] + kind([part]) + thing[at:]
        for spoilt in spoilings(part):
            yield thing[:at] + kind([spoilt]) + thing[at + 1:]


def is_number_of(thing, low, high):
    """Whether a thing is a whole number from low to high."""
    return type(thing) is int and low <= thing <= high


def is_row_of(thing, fewest, most, high):
    """Whether a thing is a tuple of so many whole numbers up to the highest one."""
    return type(thing) is tuple and fewest <= len(thing) <= most and all(is_number_of(x, 0, high) for x in thing)


def lists_in(thing):
    """All lists at all places of a thing, itself too."""
    found = [thing] if isinstance(thing, list) else []
    if isinstance(thing, (list, tuple)):
        for part in thing:
            found += lists_in(part)
    return found


def same_kinds(first, second):
    """Whether two things are alike down to the innermost, truths and numbers told apart."""
    if type(first) is not type(second):
        return False
    if isinstance(first, (list, tuple)):
        return len(first) == len(second) and all(map(same_kinds, first, second))
    return first == second


def spoil_lists(thing):
    """Changes all lists of a thing."""
    for each in lists_in(thing):
        each[:] = ["spoilt"]


def check_own(test, call, *handed):
    """Nothing handed in is changed; each list told is new and stands once; neither hangs on the other later."""
    kept = copy.deepcopy(handed)
    told = call(*handed)
    test.assertTrue(same_kinds(handed, kept), "what was handed in was changed")
    told_lists = [id(each) for each in lists_in(told)]
    test.assertEqual(len(set(told_lists)), len(told_lists), "a list stands at two places")
    test.assertFalse(set(told_lists) & {id(each) for each in lists_in(handed)}, "a list was handed in")
    kept_told = copy.deepcopy(told)
    spoil_lists(told)
    test.assertTrue(same_kinds(handed, kept), "what was handed in hangs on what was told")
    again = call(*handed)
    test.assertTrue(same_kinds(again, kept_told), "what was told was kept")
    spoil_lists(handed)
    test.assertTrue(same_kinds(again, kept_told), "what was told hangs on what was handed in")


@contextlib.contextmanager
def at_once(test, seconds=20):
    """Fails where what is done within takes long: a way through all cuttings one by one would never end."""
    def stop(number, frame):
        test.fail(f"not answered within {seconds} seconds")

    before = signal.signal(signal.SIGALRM, stop)
    signal.alarm(seconds)
    try:
        yield
    finally:
        signal.alarm(0)
        signal.signal(signal.SIGALRM, before)


class Numbers:
    """An endless row of numbers that is the same in every run."""

    def __init__(self, seed):
        self.state = seed

    def below(self, bound):
        self.state = (self.state * 6364136223846793005 + 1442695040888963407) % 2 ** 64
        return (self.state >> 33) % bound

    def row(self, fewest, most, bound):
        return tuple(self.below(bound) for each in range(fewest + self.below(most - fewest + 1)))

    def table(self, many, last_key, last_sound):
        """A table of at most so many rows, of keys and sounds up to these."""
        found = {}
        for each in range(many):
            keys = self.row(1, 4, last_key + 1)
            found[keys] = (keys, self.row(0, 3, last_sound + 1), self.row(0, len(keys) - 1, last_key + 1))
        return list(found.values())

    def piece(self, begin, places, costs):
        end = begin + 1 + self.below(min(places - begin, 4))
        return (end, self.row(1, 2, 3), self.below(9), self.below(costs))

    def net(self, places, most, costs):
        """A net of so many places, at most so many pieces at each of them, costs below a bound."""
        found = []
        for begin in range(places):
            pieces = [self.piece(begin, places, costs) for each in range(self.below(most + 1))]
            found.append(sorted({piece[:3]: piece for piece in pieces}.values()))
        return found

    def rates(self, bound):
        return tuple(tuple(self.below(bound) for each in range(10)) for other in range(10))

    def commit(self, most_sounds, sounds, signs, kinds):
        """A commit of at most so many sounds; sounds, signs and kinds below these bounds."""
        row = self.row(1, most_sounds, sounds)
        pieces, at = [], 0
        while at < len(row):
            at += 1 + self.below(min(len(row) - at, 3))
            pieces.append((at, self.row(1, 2, signs), self.below(kinds), self.below(10000)))
        return (row, tuple(pieces), self.below(2) == 1)

    def book(self, many, sounds, signs):
        """A book of at most so many words, of at most three sounds below a bound and two signs below one."""
        book = Book()
        for each in range(many):
            word = (self.row(1, 3, sounds), self.row(1, 2, signs), self.below(8), self.below(3000))
            if book.cost_of(*word[:3]) is None:
                book.put(word)
        return book
