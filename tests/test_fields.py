import copy
import unittest

from signbench.errors import Barred, BenchError, Marked, NoDeed, NoMark, NoPlace, NoStanding, TooLong
from signbench.fields import after, is_field, is_standing
from tests.things import (
    Numbers, check_own, is_number_of, is_row_of, other_kinds, same_kinds, spoilings, wrong_things,
)

FIELD = (10, (7, 8))
START = ((), 0, 0, None)
# Six signs of which the places 1 to 3 are chosen, and the same with the places 3 to 5 marked.
CHOSEN = ((0, 1, 2, 3, 4, 5), 1, 3, None)
MARKED = ((0, 1, 2, 3, 4, 5), 1, 3, (3, 5))


def is_plainly_field(thing):
    """The words of the document once more."""
    if type(thing) is not tuple or len(thing) != 2:
        return False
    return is_number_of(thing[0], 0, 60) and is_row_of(thing[1], 0, 20, 1039)


def is_plainly_standing(field, thing):
    """The words of the document once more, sign by sign."""
    if type(thing) is not tuple or len(thing) != 4 or not is_row_of(thing[0], 0, 10 ** 9, 1039):
        return False
    signs, begin, end, marked = thing
    if not is_number_of(begin, 0, 10 ** 9) or not is_number_of(end, begin, len(signs)):
        return False
    inside = []
    if marked is not None:
        if type(marked) is not tuple or len(marked) != 2 or not is_number_of(marked[0], 0, 10 ** 9):
            return False
        if not is_number_of(marked[1], marked[0] + 1, len(signs)):
            return False
        inside = range(marked[0], marked[1])
    free = [sign for at, sign in enumerate(signs) if at not in inside]
    return len(inside) <= 96 and len(free) <= field[0] and not set(free) & set(field[1])


def is_plainly_deed(thing):
    """The words of the document once more."""
    if type(thing) is not tuple or not thing or type(thing[0]) is not str:
        return False
    word, rest = thing[0], thing[1:]
    if (word, len(rest)) in (("unmark", 0), ("stand", 1)):
        return True
    if (word, len(rest)) in (("mark", 1), ("commit", 1)):
        return is_row_of(rest[0], 1, 96, 1039)
    if (word, len(rest)) == ("choose", 2):
        return is_row_of(rest, 2, 2, 999) and rest[0] <= rest[1]
    if (word, len(rest)) == ("put", 2):
        return is_number_of(rest[0], 0, 999) and is_row_of(rest[1], 1, 24, 1039)
    return (word, len(rest)) == ("out", 2) and is_number_of(rest[0], 0, 999) and is_number_of(rest[1], 1, 60)


def after_plainly(field, standing, deed):
    """What a right deed makes, by cells (place at first, sign, whether marked); a word where it is refused."""
    signs, begin, end, marked = standing
    inside = range(*marked) if marked else ()
    cells = [(at, sign, at in inside) for at, sign in enumerate(signs)]
    word = deed[0]
    if word == "stand":
        return deed[1] if is_plainly_standing(field, deed[1]) else NoStanding
    if word == "choose":
        return (signs, deed[1], deed[2], marked) if deed[2] <= len(signs) else NoPlace
    if word in ("mark", "unmark", "commit"):
        if word == "unmark" and not marked:
            return NoMark
        low, high = marked or (begin, end)
        coming = list(deed[1]) if word != "unmark" else []
        made = [sign for at, sign, also in cells[:low]] + coming + [sign for at, sign, also in cells[high:]]
        if word == "commit" and set(coming) & set(field[1]):
            return Barred
        if word == "commit" and len(made) > field[0]:
            return TooLong
        caret = low + len(coming)
        return (tuple(made), caret, caret, (low, caret) if word == "mark" else None)
    place = deed[1]
    if word == "put":
        if place > len(cells):
            return NoPlace
        if 0 < place < len(cells) and cells[place - 1][2] and cells[place][2]:
            return Marked
        if set(deed[2]) & set(field[1]):
            return Barred
        if len([cell for cell in cells if not cell[2]]) + len(deed[2]) > field[0]:
            return TooLong
        cells[place:place] = [(None, sign, False) for sign in deed[2]]
        gaps = [gap + (len(deed[2]) if gap > place else 0) for gap in (begin, end)]
    else:
        going = cells[place:place + deed[2]]
        if len(going) < deed[2]:
            return NoPlace
        if any(cell[2] for cell in going):
            return Marked
        cells[place:place + deed[2]] = []
        # A gap lies behind as many signs as are left of those ahead of it.
        gaps = [len([cell for cell in cells if cell[0] < gap]) for gap in (begin, end)]
    places = [at for at, cell in enumerate(cells) if cell[2]]
    return (tuple(cell[1] for cell in cells), gaps[0], gaps[1], (places[0], places[-1] + 1) if places else None)


class Chance:
    """Fields, standings and deeds by chance, small ones, so that all refusals come often."""

    def __init__(self, seed):
        self.numbers = Numbers(seed)

    def field(self):
        return (self.numbers.below(13), self.numbers.row(0, 2, 10))

    def standing(self, field):
        numbers = self.numbers
        signs = [sign for sign in numbers.row(0, 12, 10) if sign not in field[1]][:field[0]]
        marked = None
        if numbers.below(2):
            inside, first = numbers.row(1, 5, 10), numbers.below(len(signs) + 1)
            signs[first:first] = inside
            marked = (first, first + len(inside))
        begin = numbers.below(len(signs) + 1)
        return (tuple(signs), begin, begin + numbers.below(len(signs) - begin + 1), marked)

    def deed(self, field):
        numbers = self.numbers
        begin = numbers.below(10)
        return [
            ("mark", numbers.row(1, 4, 10)), ("unmark",), ("commit", numbers.row(1, 4, 10)),
            ("choose", begin, begin + numbers.below(5)), ("put", numbers.below(14), numbers.row(1, 4, 10)),
            ("out", numbers.below(12), 1 + numbers.below(4)), ("stand", self.standing(field)),
            ("stand", self.standing(self.field())),
        ][numbers.below(8)]


class Fields(unittest.TestCase):
    def test_right_ones(self):
        for field in (
            (0, ()), (60, ()), (30, (5,)), (60, tuple(range(1020, 1040))), (1, (0, 1039)), (5, (3, 3)), FIELD,
        ):
            self.assertIs(is_field(field), True, field)

    def test_any_thing(self):
        for thing in wrong_things() + [[], ()]:
            self.assertIs(is_field(thing), False, thing)

    def test_one_beyond_the_bounds(self):
        for thing in (
            (-1, ()), (61, ()), (10 ** 59, ()), (5, (-1,)), (5, (1040,)), (5, (0, 1040)), (5, tuple(range(21))),
        ):
            self.assertIs(is_field(thing), False, thing)

    def test_other_kinds(self):
        for thing in (
            [5, ()], (5, []), (5, [3]), (True, ()), (False, ()), (5, (True,)), (5, (False,)), (5, None), (None, ()),
            (5, 3), (5,), (5, (), ()), ((), 5), ("5", ()), (5, ("3",)), (5, ((3,),)), (5, "3"),
        ):
            self.assertIs(is_field(thing), False, thing)

    def test_one_part_put_otherwise_left_out_or_put_in(self):
        for field in (FIELD, (0, ()), (60, tuple(range(20)))):
            for spoilt in spoilings(field):
                self.assertIs(is_field(spoilt), is_plainly_field(spoilt), spoilt)


class Standings(unittest.TestCase):
    def right(self, field, thing):
        self.assertIs(is_standing(field, thing), True, (field, thing))

    def wrong(self, field, thing):
        self.assertIs(is_standing(field, thing), False, (field, thing))

    def test_the_beginning(self):
        for field in ((0, ()), (60, ()), (5, tuple(range(20))), FIELD):
            self.right(field, START)

    def test_ordinary(self):
        self.right(FIELD, CHOSEN)
        self.right(FIELD, MARKED)

    def test_the_chosen_stretch(self):
        for begin in range(-1, 8):
            for end in range(-1, 8):
                told = 0 <= begin <= end <= 6
                self.assertIs(is_standing(FIELD, (CHOSEN[0], begin, end, None)), told, (begin, end))
                self.assertIs(is_standing(FIELD, (CHOSEN[0], begin, end, (3, 5))), told, (begin, end))

    def test_the_marked_stretch(self):
        for first in range(-1, 8):
            for behind in range(-1, 8):
                told = 0 <= first < behind <= 6
                self.assertIs(is_standing(FIELD, (CHOSEN[0], 1, 3, (first, behind))), told, (first, behind))

    def test_the_limit(self):
        for limit in (0, 1, 10, 60):
            self.right((limit, ()), ((5,) * limit, 0, 0, None))
            self.wrong((limit, ()), ((5,) * (limit + 1), 0, 0, None))
            self.right((limit, ()), ((5,) * (limit + 3), 0, 0, (0, 3)))
            self.right((limit, ()), ((5,) * (limit + 3), 0, 0, (limit, limit + 3)))
            self.wrong((limit, ()), ((5,) * (limit + 4), 0, 0, (0, 3)))

    def test_ninety_six_marked_signs_and_more(self):
        for limit in (0, 60):
            self.right((limit, ()), ((5,) * (limit + 96), 0, 0, (0, 96)))
            self.wrong((limit, ()), ((5,) * (limit + 97), 0, 0, (0, 96)))
            self.wrong((limit, ()), ((5,) * (limit + 97), 0, 0, (0, 97)))
        self.wrong((60, ()), ((5,) * 97, 0, 0, (0, 97)))
        self.right((60, ()), ((5,) * 97, 0, 0, (1, 97)))
        self.right((60, ()), ((5,) * 156, 156, 156, (60, 156)))

    def test_barred_signs(self):
        for barred in FIELD[1]:
            self.wrong(FIELD, ((barred,), 0, 0, None))
            self.right(FIELD, ((barred,), 0, 0, (0, 1)))
            self.wrong(FIELD, ((barred, barred), 0, 0, (0, 1)))
            self.wrong(FIELD, ((1, barred, barred), 0, 0, (1, 2)))
            self.wrong(FIELD, ((barred, 1, barred), 0, 0, (1, 3)))
            self.right(FIELD, ((1, barred, 1), 0, 0, (1, 2)))
        twenty = tuple(range(20))
        for sign in (0, 19):
            self.wrong((5, twenty), ((sign,), 0, 0, None))
        self.right((5, twenty), ((20,), 0, 0, None))
        self.right((5, ()), ((0, 7, 8, 1039), 0, 0, None))

    def test_signs(self):
        self.right(FIELD, ((0, 1039), 0, 0, None))
        for signs in ((-1,), (1040,), (True,), (None,), ((1,),), [1], [], 1, None, "1", ("1",)):
            self.wrong(FIELD, (signs, 0, 0, None))

    def test_any_thing(self):
        for field in (FIELD, (0, ()), (60, ())):
            for thing in wrong_things() + [[], ()]:
                self.wrong(field, thing)

    def test_truths_and_lists(self):
        for thing in (
            list(MARKED), ((0, 1), False, 1, None), ((0, 1), 0, True, None), ((0, 1), 0, 0, (False, 1)),
            ((0, 1), 0, 0, (0, True)), ((0, 1), 0, 0, [0, 1]), ((0, 1), 0, 0, ()), ((0, 1), 0, 0, (0,)),
            ((0, 1), 0, 0, (0, 1, 2)), ((0, 1), 0, 0, False), ((0, 1), 0, 0, 0), ((0, 1), 0, 0),
            ((0, 1), 0, 0, None, None),
            ((0, 1), None, 0, None), ((0, 1), 0, None, None), ((0, 1), 0, 0, (None, 1)), ((0, 1), 0, 0, (0, None)),
        ):
            self.wrong(FIELD, thing)

    def test_one_part_put_otherwise_left_out_or_put_in(self):
        for field in (FIELD, (6, (3,)), (4, ()), (0, ()), (60, tuple(range(20)))):
            for standing in (START, CHOSEN, MARKED, ((3, 3), 2, 2, (0, 2))):
                for spoilt in spoilings(standing):
                    self.assertIs(is_standing(field, spoilt), is_plainly_standing(field, spoilt), (field, spoilt))

    def test_standings_by_chance(self):
        chance = Chance(3)
        found = set()
        for each in range(3000):
            field = chance.field()
            standing = chance.standing(chance.field())
            self.assertIs(is_standing(field, standing), is_plainly_standing(field, standing), (field, standing))
            self.right(field, chance.standing(field))
            found.add(is_standing(field, standing))
        self.assertEqual(found, {True, False})

    def test_what_is_asked_is_not_changed(self):
        for thing in wrong_things() + [([1], 0, 0, [0, 1]), MARKED]:
            kept = copy.deepcopy(thing)
            is_standing(FIELD, thing)
            is_field(thing)
            self.assertTrue(same_kinds(thing, kept))


class DeedsTest(unittest.TestCase):
    def leads(self, standing, deed, told, field=FIELD):
        self.assertTrue(is_standing(field, standing))
        self.assertTrue(same_kinds(after(field, standing, deed), told), (standing, deed, after(field, standing, deed)))

    def refused(self, error, standing, deed, field=FIELD):
        kept = copy.deepcopy(deed)
        with self.assertRaises(error, msg=(standing, deed)) as caught:
            after(field, standing, deed)
        self.assertIs(type(caught.exception), error)
        self.assertIsInstance(caught.exception, BenchError)
        self.assertTrue(same_kinds(deed, kept))


class MarkAndCommit(DeedsTest):
    def test_mark_at_the_beginning(self):
        self.leads(START, ("mark", (1, 2)), ((1, 2), 2, 2, (0, 2)))

    def test_mark_in_the_place_of_the_marked_stretch(self):
        self.leads(MARKED, ("mark", (9,)), ((0, 1, 2, 9, 5), 4, 4, (3, 4)))
        self.leads(MARKED, ("mark", (9, 9, 9)), ((0, 1, 2, 9, 9, 9, 5), 6, 6, (3, 6)))

    def test_mark_in_the_place_of_the_chosen_stretch(self):
        self.leads(CHOSEN, ("mark", (9,)), ((0, 9, 3, 4, 5), 2, 2, (1, 2)))
        self.leads(((1, 2), 0, 2, None), ("mark", (9, 9, 9)), ((9, 9, 9), 3, 3, (0, 3)))

    def test_mark_at_a_caret(self):
        self.leads(((1, 2), 1, 1, None), ("mark", (9, 9)), ((1, 9, 9, 2), 3, 3, (1, 3)))
        self.leads(((1, 2), 2, 2, None), ("mark", (9, 9)), ((1, 2, 9, 9), 4, 4, (2, 4)))

    def test_marked_signs_may_be_barred_and_beyond_the_limit(self):
        self.leads(START, ("mark", (7,) * 96), ((7,) * 96, 96, 96, (0, 96)), (0, (7,)))
        self.leads(((1,), 1, 1, None), ("mark", (7, 8)), ((1, 7, 8), 3, 3, (1, 3)), (1, (7, 8)))

    def test_unmark(self):
        self.leads(MARKED, ("unmark",), ((0, 1, 2, 5), 3, 3, None))
        self.leads(((7, 7), 0, 0, (0, 2)), ("unmark",), ((), 0, 0, None))
        self.leads(((1, 7, 7), 0, 1, (1, 3)), ("unmark",), ((1,), 1, 1, None))

    def test_unmark_where_nothing_is_marked(self):
        for standing in (START, CHOSEN):
            self.refused(NoMark, standing, ("unmark",))

    def test_commit_at_the_beginning(self):
        self.leads(START, ("commit", (1, 2)), ((1, 2), 2, 2, None))

    def test_commit_in_the_place_of_the_marked_stretch(self):
        self.leads(MARKED, ("commit", (9,)), ((0, 1, 2, 9, 5), 4, 4, None))
        self.leads(((7, 8), 0, 2, (0, 2)), ("commit", (1, 2, 3)), ((1, 2, 3), 3, 3, None))

    def test_commit_in_the_place_of_the_chosen_stretch_and_at_a_caret(self):
        self.leads(CHOSEN, ("commit", (9,)), ((0, 9, 3, 4, 5), 2, 2, None))
        self.leads(((1, 2), 1, 1, None), ("commit", (9, 9)), ((1, 9, 9, 2), 3, 3, None))

    def test_commit_of_barred_signs(self):
        for signs in ((7,), (8,), (1, 7), (7, 7), (1, 1, 1, 8)):
            self.refused(Barred, START, ("commit", signs))
            self.refused(Barred, MARKED, ("commit", signs))

    def test_commit_at_the_limit_and_one_beyond(self):
        self.leads(START, ("commit", (1,) * 10), ((1,) * 10, 10, 10, None))
        self.refused(TooLong, START, ("commit", (1,) * 11))
        self.leads(CHOSEN, ("commit", (9,) * 6), ((0,) + (9,) * 6 + (3, 4, 5), 7, 7, None))
        self.refused(TooLong, CHOSEN, ("commit", (9,) * 7))
        self.leads(MARKED, ("commit", (9,) * 6), ((0, 1, 2) + (9,) * 6 + (5,), 9, 9, None))
        self.refused(TooLong, MARKED, ("commit", (9,) * 7))

    def test_limits_of_nought_and_sixty(self):
        self.refused(TooLong, START, ("commit", (1,)), (0, ()))
        self.refused(TooLong, ((1,), 1, 1, (0, 1)), ("commit", (1,)), (0, ()))
        self.leads(START, ("commit", (1,) * 60), ((1,) * 60, 60, 60, None), (60, ()))
        self.refused(TooLong, START, ("commit", (1,) * 61), (60, ()))
        self.leads(((1,) * 60, 0, 60, None), ("commit", (2,)), ((2,), 1, 1, None), (60, ()))

    def test_barred_goes_ahead_of_too_long(self):
        self.refused(Barred, START, ("commit", (1,) * 10 + (7,)))
        self.refused(Barred, START, ("commit", (7,)), (0, (7,)))


class ChooseAndStand(DeedsTest):
    def test_choose(self):
        for standing in (CHOSEN, MARKED):
            for begin, end in ((0, 0), (0, 6), (6, 6), (2, 4), (4, 5)):
                self.leads(standing, ("choose", begin, end), (standing[0], begin, end, standing[3]))
        self.leads(START, ("choose", 0, 0), START)

    def test_choose_beyond(self):
        for begin, end in ((0, 7), (6, 7), (7, 7), (0, 999), (999, 999)):
            self.refused(NoPlace, CHOSEN, ("choose", begin, end))
            self.refused(NoPlace, MARKED, ("choose", begin, end))
        self.refused(NoPlace, START, ("choose", 0, 1))

    def test_stand(self):
        for standing in (START, CHOSEN, MARKED):
            for other in (START, CHOSEN, MARKED, ((7, 8), 2, 2, (0, 2))):
                self.leads(standing, ("stand", other), other)

    def test_stand_where_it_is_no_standing(self):
        wrong = [((7,), 0, 0, None), ((1,) * 11, 0, 0, None), ((1,), 0, 2, None), ((1,), 1, 0, None), list(START),
                 ((1,), True, 1, None), ((1,), 0, 0, [0, 1]), ((1,), 0, 0, (0, 0))]
        for thing in wrong_things() + wrong + [(), [], START + (None,), START[:3], ("stand", START)]:
            self.refused(NoStanding, MARKED, ("stand", thing))

    def test_a_standing_of_another_field(self):
        self.leads(START, ("stand", ((1,) * 11, 0, 0, None)), ((1,) * 11, 0, 0, None), (11, ()))
        self.refused(NoStanding, START, ("stand", ((1,) * 11, 0, 0, None)), (10, ()))


class PutByAnotherHand(DeedsTest):
    def test_ahead_of_at_within_and_behind_the_chosen_stretch(self):
        signs = CHOSEN[0]
        for place, begin, end in ((0, 3, 5), (1, 1, 5), (2, 1, 5), (3, 1, 3), (4, 1, 3), (6, 1, 3)):
            self.leads(CHOSEN, ("put", place, (9, 9)), (signs[:place] + (9, 9) + signs[place:], begin, end, None))

    def test_at_a_caret(self):
        for place, caret in ((0, 4), (1, 4), (2, 2), (3, 2)):
            told = CHOSEN[0][:place] + (9, 9) + CHOSEN[0][place:]
            self.leads((CHOSEN[0], 2, 2, None), ("put", place, (9, 9)), (told, caret, caret, None))
        self.leads(START, ("put", 0, (9, 9)), ((9, 9), 0, 0, None))

    def test_ahead_of_at_and_behind_the_marked_stretch(self):
        signs = MARKED[0]
        for place, begin, end, marked in (
            (0, 2, 4, (4, 6)), (2, 1, 4, (4, 6)), (3, 1, 3, (4, 6)), (5, 1, 3, (3, 5)), (6, 1, 3, (3, 5)),
        ):
            self.leads(MARKED, ("put", place, (9,)), (signs[:place] + (9,) + signs[place:], begin, end, marked))

    def test_within_the_marked_stretch(self):
        self.refused(Marked, MARKED, ("put", 4, (9,)))
        long = ((1, 1, 1, 1), 0, 0, (0, 4))
        for place in (1, 2, 3):
            self.refused(Marked, long, ("put", place, (9,)))
        self.leads(long, ("put", 0, (9,)), ((9, 1, 1, 1, 1), 0, 0, (1, 5)))
        self.leads(long, ("put", 4, (9,)), ((1, 1, 1, 1, 9), 0, 0, (0, 4)))

    def test_beyond_the_signs(self):
        self.leads(CHOSEN, ("put", 6, (9,)), (CHOSEN[0] + (9,), 1, 3, None))
        for place in (7, 8, 999):
            self.refused(NoPlace, CHOSEN, ("put", place, (9,)))
            self.refused(NoPlace, MARKED, ("put", place, (9,)))
        self.refused(NoPlace, START, ("put", 1, (9,)))

    def test_barred_signs(self):
        for signs in ((7,), (1, 8)):
            self.refused(Barred, CHOSEN, ("put", 0, signs))
            self.refused(Barred, MARKED, ("put", 5, signs))

    def test_at_the_limit_and_one_beyond(self):
        self.leads(CHOSEN, ("put", 6, (9,) * 4), (CHOSEN[0] + (9,) * 4, 1, 3, None))
        self.refused(TooLong, CHOSEN, ("put", 6, (9,) * 5))
        # Marked signs don't count.
        self.leads(MARKED, ("put", 6, (9,) * 6), (MARKED[0] + (9,) * 6, 1, 3, (3, 5)))
        self.refused(TooLong, MARKED, ("put", 6, (9,) * 7))
        self.leads(START, ("put", 0, (1,) * 24), ((1,) * 24, 0, 0, None), (24, ()))
        self.refused(TooLong, START, ("put", 0, (1,) * 24), (23, ()))
        self.refused(TooLong, START, ("put", 0, (1,)), (0, ()))

    def test_which_refusal_goes_first(self):
        self.refused(NoPlace, CHOSEN, ("put", 7, (7,) * 24))
        self.refused(Marked, MARKED, ("put", 4, (7,) * 24))
        self.refused(Marked, MARKED, ("put", 4, (9,) * 24))
        self.refused(Barred, CHOSEN, ("put", 6, (7,) * 24))


class OutByAnotherHand(DeedsTest):
    def test_one_sign_ahead_of_within_and_behind_the_chosen_stretch(self):
        signs = CHOSEN[0]
        for place, begin, end in ((0, 0, 2), (1, 1, 2), (2, 1, 2), (3, 1, 3), (5, 1, 3)):
            self.leads(CHOSEN, ("out", place, 1), (signs[:place] + signs[place + 1:], begin, end, None))

    def test_several_signs_over_the_chosen_stretch(self):
        signs = CHOSEN[0]
        for place, many, begin, end in (
            (0, 2, 0, 1), (0, 3, 0, 0), (0, 6, 0, 0), (1, 2, 1, 1), (1, 5, 1, 1), (2, 2, 1, 2), (2, 4, 1, 2),
            (3, 3, 1, 3), (0, 1, 0, 2),
        ):
            self.leads(CHOSEN, ("out", place, many), (signs[:place] + signs[place + many:], begin, end, None))

    def test_at_a_caret(self):
        for place, many, caret in ((0, 1, 1), (0, 2, 0), (1, 1, 1), (1, 2, 1), (2, 1, 2), (0, 6, 0), (3, 3, 2)):
            told = CHOSEN[0][:place] + CHOSEN[0][place + many:]
            self.leads((CHOSEN[0], 2, 2, None), ("out", place, many), (told, caret, caret, None))

    def test_ahead_of_and_behind_the_marked_stretch(self):
        signs = MARKED[0]
        for place, many, begin, end, marked in (
            (0, 1, 0, 2, (2, 4)), (0, 3, 0, 0, (0, 2)), (2, 1, 1, 2, (2, 4)), (1, 2, 1, 1, (1, 3)),
            (5, 1, 1, 3, (3, 5)),
        ):
            self.leads(MARKED, ("out", place, many), (signs[:place] + signs[place + many:], begin, end, marked))

    def test_chosen_signs_within_and_behind_the_marked_stretch(self):
        standing = (MARKED[0], 4, 6, (3, 5))
        self.leads(standing, ("out", 0, 2), ((2, 3, 4, 5), 2, 4, (1, 3)))
        self.leads(standing, ("out", 5, 1), ((0, 1, 2, 3, 4), 4, 5, (3, 5)))

    def test_marked_signs(self):
        for place, many in ((3, 1), (4, 1), (3, 2), (2, 2), (0, 6), (4, 2), (0, 4), (2, 4)):
            self.refused(Marked, MARKED, ("out", place, many))

    def test_not_so_many_signs(self):
        for standing in (CHOSEN, MARKED):
            for place, many in ((6, 1), (5, 2), (0, 7), (0, 60), (999, 1), (999, 60), (7, 1)):
                self.refused(NoPlace, standing, ("out", place, many))
        self.refused(NoPlace, START, ("out", 0, 1))

    def test_no_place_goes_ahead_of_marked(self):
        for place, many in ((3, 4), (4, 3), (0, 7)):
            self.refused(NoPlace, MARKED, ("out", place, many))

    def test_sixty_signs(self):
        self.leads(((1,) * 60, 30, 40, None), ("out", 0, 60), ((), 0, 0, None), (60, ()))


class NoDeeds(DeedsTest):
    DEEDS = (
        ("mark", (1, 2)), ("unmark",), ("commit", (1,)), ("choose", 0, 1), ("put", 0, (1, 2)), ("out", 0, 1),
        ("stand", START), ("choose", 2, 2),
    )

    def test_any_thing(self):
        for thing in wrong_things() + [[], (), START, MARKED]:
            self.refused(NoDeed, MARKED, thing)

    def test_words(self):
        for word in ("", "Mark", "marks", "undo", "key", None, 0, True, [], ("mark",), ["mark"]):
            for rest in ((), (1,), ((1,),), (0, 1), (0, (1,)), (0, 1, 2)):
                self.refused(NoDeed, MARKED, (word,) + rest)

    def test_signs_one_beyond_the_bounds(self):
        for word, most in (("mark", 96), ("commit", 96)):
            for signs in ((), (1,) * (most + 1), (-1,), (1040,), (1, 1040)):
                self.refused(NoDeed, MARKED, (word, signs))
        for signs in ((), (1,) * 25, (-1,), (1040,), (1, 1040)):
            self.refused(NoDeed, MARKED, ("put", 0, signs))

    def test_as_many_signs_as_may_be(self):
        self.leads(START, ("mark", (1039,) * 96), ((1039,) * 96, 96, 96, (0, 96)))
        self.refused(TooLong, START, ("commit", (0,) * 96))
        self.refused(TooLong, START, ("put", 0, (1039,) * 24))

    def test_places_one_beyond_the_bounds(self):
        for bad in (-1, 1000, 10 ** 59):
            for deed in (("choose", bad, 999), ("choose", 0, bad), ("put", bad, (1,)), ("out", bad, 1)):
                self.refused(NoDeed, MARKED, deed)
        for many in (-1, 0, 61, 10 ** 59):
            self.refused(NoDeed, MARKED, ("out", 0, many))
        for begin, end in ((1, 0), (5, 4), (999, 998)):
            self.refused(NoDeed, MARKED, ("choose", begin, end))

    def test_lists_and_truths(self):
        for deed in (
            ["unmark"], ("mark", [1]), ("commit", [1]), ("mark", (True,)), ("commit", (1, False)), ("put", 0, [1]),
            ("put", False, (1,)), ("put", 0, (True,)), ("choose", False, 1), ("choose", 0, True),
            ("choose", False, False), ("out", False, 1), ("out", 0, True), ["mark", (1,)], ["stand", START],
            ("choose", [0], [1]),
        ):
            self.refused(NoDeed, MARKED, deed)

    def test_stand_is_a_deed_with_any_thing_but_no_more_or_less(self):
        for thing in wrong_things():
            self.refused(NoStanding, MARKED, ("stand", thing))
        for deed in (("stand",), ("stand", START, START), ("stand",) + START):
            self.refused(NoDeed, MARKED, deed)

    def test_one_part_put_otherwise_left_out_or_put_in(self):
        many = 0
        for deed in self.DEEDS:
            for spoilt in spoilings(deed):
                if not is_plainly_deed(spoilt):
                    self.refused(NoDeed, MARKED, spoilt)
                    self.refused(NoDeed, START, spoilt)
                    many += 1
                else:
                    try:
                        after(FIELD, MARKED, spoilt)
                    except NoDeed:
                        self.fail(spoilt)
                    except BenchError:
                        pass
        self.assertGreater(many, 100)
        for deed in self.DEEDS:
            for spoilt in other_kinds(deed):
                self.refused(NoDeed, MARKED, spoilt)

    def test_no_deed_goes_ahead_of_all_others(self):
        self.refused(NoDeed, MARKED, ("put", 1000, (7,)))
        self.refused(NoDeed, MARKED, ("put", 4, (7,) * 25))
        self.refused(NoDeed, START, ("unmark", None))
        self.refused(NoDeed, MARKED, ("commit", (7,) * 97))
        self.refused(NoDeed, MARKED, ("stand", None, None))


class RowsOfDeeds(unittest.TestCase):
    def test_deeds_by_chance(self):
        chance = Chance(5)
        told = {}
        for each in range(6000):
            field = chance.field()
            standing, deed = chance.standing(field), chance.deed(field)
            expected = after_plainly(field, standing, deed)
            told[(deed[0], expected if isinstance(expected, type) else None)] = True
            if isinstance(expected, type):
                with self.assertRaises(expected, msg=(field, standing, deed)) as caught:
                    after(field, standing, deed)
                self.assertIs(type(caught.exception), expected)
            else:
                found = after(field, standing, deed)
                self.assertTrue(same_kinds(found, expected), (field, standing, deed, found, expected))
                self.assertTrue(is_standing(field, found), (field, standing, deed, found))
        for name in (
            ("mark", None), ("unmark", None), ("unmark", NoMark), ("commit", None), ("commit", Barred),
            ("commit", TooLong), ("choose", None), ("choose", NoPlace), ("put", None), ("put", NoPlace),
            ("put", Marked), ("put", Barred), ("put", TooLong), ("out", None), ("out", NoPlace), ("out", Marked),
            ("stand", None), ("stand", NoStanding),
        ):
            self.assertIn(name, told)

    def test_the_text_is_what_the_deeds_make_one_by_one(self):
        chance = Chance(7)
        for each in range(60):
            field, standing, expected = chance.field(), START, START
            for other in range(60):
                deed = chance.deed(field)
                then = after_plainly(field, expected, deed)
                try:
                    standing = after(field, standing, deed)
                except BenchError as refusal:
                    self.assertIs(type(refusal), then)
                else:
                    expected = then
                self.assertEqual(standing, expected)

    def test_handed_in_stays(self):
        for deed in NoDeeds.DEEDS:
            check_own(self, after, FIELD, MARKED, deed)

    def test_a_refused_call_changes_nothing(self):
        for deed in (["unmark"], ("mark", [1]), ("stand", [[1], 0, 0, None]), ("stand", ([1], 0, 0, [0, 1]))):
            kept = copy.deepcopy(deed)
            for each in range(2):
                with self.assertRaises(BenchError):
                    after(FIELD, MARKED, deed)
            self.assertTrue(same_kinds(deed, kept))
            self.assertEqual(after(FIELD, MARKED, ("choose", 0, 6)), (MARKED[0], 0, 6, (3, 5)))


if __name__ == "__main__":
    unittest.main()
