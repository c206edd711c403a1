import copy
import itertools
import unittest

from signbench.cuttings import first_cuttings, how_many
from signbench.errors import BenchError, NoPlace
from signbench.nets import is_net
from signbench.wishes import fighting, is_wish, longer, shorter, thinned
from tests.test_cuttings import all_cuttings
from tests.things import Numbers, at_once, check_own, is_number_of, is_row_of, other_kinds, spoilings, wrong_things

SIGNS = ((1,), (2, 2), (3,))


def is_plainly_wish(n, thing):
    """The words of the document once more."""
    if type(thing) is not tuple or len(thing) < 2 or type(thing[0]) is not str:
        return False
    word, numbers = thing[0], thing[1:]
    if word in ("border", "joined"):
        return len(numbers) == 1 and is_number_of(numbers[0], 1, n - 1)
    if word == "held":
        if not is_row_of(numbers[-1], 1, 24, 1039):
            return False
        word, numbers = "span", numbers[:-1]
    return word == "span" and len(numbers) == 2 and is_row_of(numbers, 2, 2, n) and numbers[0] < numbers[1]


def all_wishes(n):
    """All wishes for n places, held ones with two rows of signs."""
    found = [(word, g) for word in ("border", "joined") for g in range(1, n)]
    for i, j in itertools.combinations(range(n + 1), 2):
        found += [("span", i, j), ("held", i, j, SIGNS[0]), ("held", i, j, SIGNS[1])]
    return found


def is_kept(wish, cutting):
    """Whether a cutting keeps a wish, by what the wish says of its pieces."""
    ends = [piece[0] for piece in cutting]
    begins = [0] + ends[:-1]
    if wish[0] == "border":
        return wish[1] in ends
    if wish[0] == "joined":
        return wish[1] not in ends
    stretches = dict(zip(zip(begins, ends), [piece[1] for piece in cutting]))
    if wish[1:3] not in stretches:
        return False
    return wish[0] == "span" or stretches[wish[1:3]] == wish[3]


def full_net(n):
    """A net with a piece for each two places, and each row of signs that a wish holds."""
    return [
        [(end, signs, 0, 7 * begin + end) for end in range(begin + 1, n + 1) for signs in SIGNS]
        for begin in range(n)
    ]


def wants_and_bars(wish):
    if wish[0] == "border":
        return {wish[1]}, set()
    if wish[0] == "joined":
        return set(), {wish[1]}
    return {wish[1], wish[2]}, set(range(wish[1] + 1, wish[2]))


def fight_plainly(first, second):
    if first[0] == second[0] == "held" and first[1:3] == second[1:3] and first[3] != second[3]:
        return True
    (wanted, barred), (also_wanted, also_barred) = wants_and_bars(first), wants_and_bars(second)
    return bool(wanted & also_barred or barred & also_wanted)


def rows_of_wishes(many, seed):
    """Rows of at most twelve wishes for at most six places, by chance."""
    numbers = Numbers(seed)
    for each in range(many):
        n = 1 + numbers.below(6)
        known = all_wishes(n)
        yield n, [known[numbers.below(len(known))] for other in range(numbers.below(13))]


class WhetherAWish(unittest.TestCase):
    def right(self, n, thing):
        self.assertIs(is_wish(n, thing), True, (n, thing))

    def wrong(self, n, thing):
        self.assertIs(is_wish(n, thing), False, (n, thing))

    def test_all_wishes_of_few_and_many_places(self):
        for n in (1, 2, 3, 5, 24):
            for wish in all_wishes(n):
                self.right(n, wish)

    def test_no_places(self):
        for wish in (
            ("border", 0), ("joined", 0), ("border", 1), ("span", 0, 0), ("span", 0, 1), ("held", 0, 0, (1,)),
            ("held", 0, 1, (1,)), ("border", -1), ("joined", -1),
        ):
            self.wrong(0, wish)

    def test_one_place(self):
        self.right(1, ("span", 0, 1))
        self.right(1, ("held", 0, 1, (1039,)))
        for wish in (
            ("border", 0), ("border", 1), ("joined", 0), ("joined", 1), ("span", 0, 0), ("span", 1, 1), ("span", 0, 2),
            ("span", 1, 2),
        ):
            self.wrong(1, wish)

    def test_g_from_one_to_one_less_than_n(self):
        for n in (2, 3, 24):
            for word in ("border", "joined"):
                for g in (1, n - 1):
                    self.right(n, (word, g))
                for g in (-1, 0, n, n + 1, 10 ** 59):
                    self.wrong(n, (word, g))

    def test_i_and_j(self):
        for n in (2, 3, 24):
            for rest in ((), ((5,),)):
                word = ("held",) if rest else ("span",)
                for i, j in ((0, n), (0, 1), (n - 1, n)):
                    self.right(n, word + (i, j) + rest)
                for i, j in ((0, n + 1), (-1, n), (n, n), (1, 1), (1, 0), (n, n + 1), (n, 0)):
                    self.wrong(n, word + (i, j) + rest)

    def test_held_signs(self):
        for signs in ((0,), (1039,), (5,) * 24):
            self.right(2, ("held", 0, 2, signs))
        for signs in ((), (5,) * 25, (1040,), (-1,), (0, 1040), [5], [], (True,), (None,), 5, ("5",), ((5,),)):
            self.wrong(2, ("held", 0, 2, signs))

    def test_words(self):
        for word in ("", "borde", "borders", "Border", "SPAN", "hold", None, 0, True, [], ("border",), ["border"]):
            self.wrong(5, (word, 1))
            self.wrong(5, (word, 1, 2))
            self.wrong(5, (word, 1, 2, (3,)))

    def test_words_with_the_numbers_of_others(self):
        for wish in (
            ("border", 1, 2), ("joined", 1, 2), ("span", 1), ("held", 1, 2), ("span", 1, 2, (3,)), ("held", 1),
            ("border", 1, 2, (3,)), ("border",), ("joined",), ("span",), ("held",), ("held", 1, 2, (3,), 4),
        ):
            self.wrong(5, wish)

    def test_any_thing(self):
        for n in (0, 1, 24):
            for thing in wrong_things() + [[], ()]:
                self.wrong(n, thing)

    def test_lists_are_no_tuples(self):
        for wish in all_wishes(4):
            self.wrong(4, list(wish))

    def test_truths_are_no_numbers(self):
        for wish in (
            ("border", True), ("joined", True), ("span", False, 1), ("span", 0, True), ("held", False, 1, (1,)),
            ("held", 0, True, (1,)), ("held", 0, 1, (True,)), ("held", 0, 1, (1, False)),
        ):
            self.wrong(3, wish)

    def test_one_part_put_otherwise_left_out_or_put_in(self):
        for wish in (("border", 1), ("joined", 2), ("span", 0, 2), ("span", 1, 3), ("held", 0, 3, (17, 4))):
            for spoilt in spoilings(wish):
                for n in (0, 1, 2, 3, 4):
                    self.assertIs(is_wish(n, spoilt), is_plainly_wish(n, spoilt), (n, spoilt))
            for spoilt in other_kinds(wish):
                self.wrong(3, spoilt)

    def test_what_is_asked_is_not_changed(self):
        for thing in wrong_things() + [("held", 0, 1, [1])]:
            kept = copy.deepcopy(thing)
            is_wish(3, thing)
            self.assertEqual(thing, kept)


class Fighting(unittest.TestCase):
    def pair(self, first, second, told):
        self.assertEqual(fighting([first, second]), (0, 1) if told else None, (first, second))
        self.assertEqual(fighting([second, first]), (0, 1) if told else None, (first, second))

    def test_none_and_one(self):
        self.assertIsNone(fighting([]))
        for wish in all_wishes(4):
            self.assertIsNone(fighting([wish]))

    def test_one_wish_twice(self):
        for wish in all_wishes(5):
            self.pair(wish, wish, False)
            self.assertIsNone(fighting([wish] * 12))

    def test_border_and_joined(self):
        self.pair(("border", 2), ("joined", 2), True)
        self.pair(("border", 2), ("joined", 3), False)
        self.pair(("border", 2), ("border", 3), False)
        self.pair(("joined", 2), ("joined", 3), False)

    def test_border_and_span(self):
        for word in (("span", 1, 4), ("held", 1, 4, (9,))):
            for g, told in ((1, False), (2, True), (3, True), (4, False), (5, False)):
                self.pair(("border", g), word, told)

    def test_joined_and_span(self):
        for word in (("span", 1, 4), ("held", 1, 4, (9,))):
            for g, told in ((1, True), (2, False), (3, False), (4, True), (5, False)):
                self.pair(("joined", g), word, told)

    def test_spans(self):
        for other, told in (
            ((1, 4), False), ((0, 1), False), ((4, 5), False), ((0, 4), True), ((1, 3), True), ((2, 4), True),
            ((1, 5), True), ((2, 3), True), ((0, 5), True), ((0, 2), True), ((3, 5), True), ((5, 6), False),
        ):
            self.pair(("span", 1, 4), ("span",) + other, told)
            self.pair(("held", 1, 4, (9,)), ("span",) + other, told)
            self.pair(("held", 1, 4, (9,)), ("held",) + other + ((9,),), told)

    def test_held_of_like_places(self):
        self.pair(("held", 1, 4, (9,)), ("held", 1, 4, (9,)), False)
        self.pair(("held", 1, 4, (9,)), ("held", 1, 4, (9, 9)), True)
        self.pair(("held", 1, 2, (9,)), ("held", 1, 2, (8,)), True)
        self.pair(("held", 1, 2, (9,)), ("held", 2, 3, (8,)), False)
        self.pair(("held", 1, 2, (9,)), ("span", 1, 2), False)

    def test_the_greater_one_as_small_as_may_be_then_the_lesser_one(self):
        border, joined = ("border", 1), ("joined", 1)
        free = ("border", 3)
        self.assertEqual(fighting([free, border, joined]), (1, 2))
        self.assertEqual(fighting([free, border, free, joined, joined]), (1, 3))
        self.assertEqual(fighting([border, border, joined]), (0, 2))
        # Of (0, 3) and (1, 2) it is the one whose greater place is the smaller one.
        self.assertEqual(fighting([("border", 1), ("border", 2), ("joined", 2), ("joined", 1)]), (1, 2))

    def test_twelve_wishes(self):
        wishes = [("border", g) for g in range(1, 12)]
        self.assertIsNone(fighting(wishes + [("border", 12)]))
        for g in range(1, 12):
            self.assertEqual(fighting(wishes + [("joined", g)]), (g - 1, 11))
        self.assertEqual(fighting(wishes + [("span", 4, 9)]), (4, 11))

    def test_all_pairs_of_few_places(self):
        for n in range(6):
            for first, second in itertools.product(all_wishes(n), repeat=2):
                self.pair(first, second, fight_plainly(first, second))

    def test_all_pairs_of_a_row_one_by_one(self):
        for n, wishes in rows_of_wishes(600, 61):
            pairs = [
                (later, earlier) for later in range(len(wishes)) for earlier in range(later)
                if fight_plainly(wishes[earlier], wishes[later])
            ]
            told = min(pairs)[::-1] if pairs else None
            self.assertEqual(fighting(wishes), told, wishes)

    def test_handed_in_stays(self):
        for n, wishes in rows_of_wishes(40, 67):
            check_own(self, fighting, wishes)


class Thinned(unittest.TestCase):
    def kept(self, n, wishes, stretches):
        net = [[(end, (1,), 0, 0) for end in range(begin + 1, n + 1)] for begin in range(n)]
        told = thinned(net, wishes)
        self.assertEqual([(begin, piece[0]) for begin, pieces in enumerate(told) for piece in pieces], stretches)

    def test_no_wishes(self):
        self.assertEqual(thinned(full_net(4), []), full_net(4))
        self.assertEqual(thinned([], []), [])

    def test_a_border(self):
        self.kept(3, [("border", 1)], [(0, 1), (1, 2), (1, 3), (2, 3)])
        self.kept(3, [("border", 2)], [(0, 1), (0, 2), (1, 2), (2, 3)])

    def test_joined(self):
        self.kept(3, [("joined", 1)], [(0, 2), (0, 3), (2, 3)])
        self.kept(3, [("joined", 2)], [(0, 1), (0, 3), (1, 3)])

    def test_a_span(self):
        self.kept(4, [("span", 1, 3)], [(0, 1), (1, 3), (3, 4)])
        self.kept(4, [("span", 0, 2)], [(0, 2), (2, 3), (2, 4), (3, 4)])
        self.kept(4, [("span", 0, 4)], [(0, 4)])
        self.kept(4, [("span", 1, 2)], [(0, 1), (1, 2), (2, 3), (2, 4), (3, 4)])

    def test_held(self):
        net = full_net(2)
        self.assertEqual(thinned(net, [("held", 0, 1, (2, 2))]), [[(1, (2, 2), 0, 1)], net[1]])
        self.assertEqual(thinned(net, [("held", 0, 2, (3,))]), [[(2, (3,), 0, 2)], []])
        self.assertEqual(thinned(net, [("held", 0, 2, (4,))]), [[], []])
        self.assertEqual(thinned(net, [("held", 1, 2, (4,))]), [net[0][:3], []])

    def test_one_wish_twice_is_one_wish(self):
        for wish in all_wishes(5):
            self.assertEqual(thinned(full_net(5), [wish, wish]), thinned(full_net(5), [wish]))

    def test_the_order_of_wishes_is_nothing(self):
        for n, wishes in rows_of_wishes(60, 71):
            self.assertEqual(thinned(full_net(n), wishes), thinned(full_net(n), wishes[::-1]))

    def test_its_cuttings_are_those_that_keep_all_wishes(self):
        for n, wishes in rows_of_wishes(150, 73):
            wishes = wishes[:1 + n]
            net = [pieces[at % 2::2] for at, pieces in enumerate(full_net(n))]
            told = thinned(net, wishes)
            self.assertTrue(is_net(told))
            expected = [cutting for cutting in all_cuttings(net) if all(is_kept(wish, cutting) for wish in wishes)]
            self.assertEqual(list(all_cuttings(told)), expected, wishes)

    def test_the_cuttings_of_each_pair_of_wishes(self):
        for n in (1, 2, 3, 4):
            net = full_net(n)
            known = [(cutting, {wish for wish in all_wishes(n) if is_kept(wish, cutting)})
                     for cutting in all_cuttings(net)]
            for pair in itertools.combinations(all_wishes(n), 2):
                expected = [cutting for cutting, kept in known if kept.issuperset(pair)]
                self.assertEqual(list(all_cuttings(thinned(net, list(pair)))), expected)

    def test_just_the_pieces_that_the_document_names(self):
        for n, wishes in rows_of_wishes(300, 79):
            net = full_net(n)
            for begin, pieces in enumerate(thinned(net, wishes)):
                self.assertEqual(pieces, [piece for piece in net[begin] if self.stays(begin, piece, wishes)])

    def stays(self, begin, piece, wishes):
        end = piece[0]
        for wish in wishes:
            passed = set(range(begin + 1, end))
            if wish[0] == "joined" and wish[1] in (begin, end):
                return False
            if wish[0] == "border" and wish[1] in passed:
                return False
            if wish[0] in ("span", "held"):
                if passed & set(wish[1:3]):
                    return False
                within = wish[1] <= begin and end <= wish[2]
                if within and ((begin, end) != wish[1:3] or wish[0] == "held" and piece[1] != wish[3]):
                    return False
        return True

    def test_there_is_a_cutting_just_where_no_two_fight(self):
        for n, wishes in rows_of_wishes(800, 83):
            many = how_many(thinned(full_net(n), wishes))
            self.assertEqual(many > 0, fighting(wishes) is None, (n, wishes))
        for n in range(1, 5):
            for many in (1, 2, 3) if n < 4 else (1, 2):
                for wishes in itertools.combinations(all_wishes(n), many):
                    told = how_many(thinned(full_net(n), list(wishes)))
                    self.assertEqual(told > 0, fighting(list(wishes)) is None, wishes)

    def test_a_wish_that_the_first_cutting_keeps_leaves_it_the_first_one(self):
        numbers = Numbers(89)
        for each in range(150):
            net, rates = numbers.net(1 + numbers.below(6), 6, 4), numbers.rates(3)
            first = first_cuttings(net, rates, 1)
            for wish in all_wishes(len(net)):
                if first and is_kept(wish, first[0][1]):
                    self.assertEqual(first_cuttings(thinned(net, [wish]), rates, 1), first)

    def test_the_first_in_order_of_all_that_keep_the_wishes(self):
        numbers = Numbers(97)
        for each in range(200):
            net, rates = numbers.net(1 + numbers.below(6), 8, 4), numbers.rates(3)
            known = all_wishes(len(net))
            wishes = [known[numbers.below(len(known))] for other in range(numbers.below(3))]
            everything = first_cuttings(net, rates, 10 ** 6)
            expected = [
                (cost, cutting) for cost, cutting in everything if all(is_kept(wish, cutting) for wish in wishes)
            ]
            self.assertEqual(first_cuttings(thinned(net, wishes), rates, 20), expected[:20])

    def test_twelve_wishes_over_a_large_net(self):
        net = [
            [(end, (sign,), kind, 10 * sign + kind) for end in range(begin + 1, min(25, begin + 5))
             for sign in range(5) for kind in range(5)]
            for begin in range(24)
        ]
        wishes = [("span", 2 * k, 2 * k + 2) for k in range(6)] + [("held", 12, 13, (4,)), ("joined", 14)]
        wishes += [("border", g) for g in (16, 17, 18, 19)]
        self.assertIsNone(fighting(wishes))
        with at_once(self):
            told = thinned(net, wishes)
            cost, cutting = first_cuttings(told, ((0,) * 10,) * 10, 20)[0]
        self.assertTrue(is_net(told))
        self.assertTrue(all(is_kept(wish, cutting) for wish in wishes))
        # All but the held piece cost nothing, so the nearest ends that the wishes leave come first.
        self.assertEqual([piece[0] for piece in cutting], [2, 4, 6, 8, 10, 12, 13] + list(range(15, 25)))
        self.assertEqual(cost, 40)

    def test_handed_in_stays_and_told_is_the_askers_own(self):
        for n, wishes in rows_of_wishes(20, 101):
            check_own(self, thinned, full_net(n), wishes)
        check_own(self, thinned, [], [])
        check_own(self, thinned, [[], []], [("border", 1)])


class LongerAndShorter(unittest.TestCase):
    CUTTING = [(2, (1,), 0, 0), (3, (2,), 0, 0), (6, (3,), 0, 0), (7, (4,), 0, 0), (9, (5,), 0, 0)]

    def refused(self, call, cutting, number):
        kept = copy.deepcopy(cutting)
        with self.assertRaises(NoPlace) as caught:
            call(cutting, number)
        self.assertIsInstance(caught.exception, BenchError)
        self.assertEqual(cutting, kept)

    def test_longer(self):
        told = [longer(self.CUTTING, number) for number in range(4)]
        self.assertEqual(told, [("span", 0, 3), ("span", 2, 4), ("span", 3, 7), ("span", 6, 8)])

    def test_shorter(self):
        told = [shorter(self.CUTTING, number) for number in (0, 2, 4)]
        self.assertEqual(told, [("span", 0, 1), ("span", 3, 5), ("span", 7, 8)])

    def test_the_last_piece_is_made_no_longer(self):
        self.refused(longer, self.CUTTING, 4)
        self.refused(longer, self.CUTTING[:1], 0)

    def test_a_piece_of_one_place_is_made_no_shorter(self):
        self.refused(shorter, self.CUTTING, 1)
        self.refused(shorter, self.CUTTING, 3)
        self.refused(shorter, [(1, (1,), 0, 0)], 0)
        self.refused(longer, [(1, (1,), 0, 0)], 0)

    def test_the_first_piece(self):
        cutting = [(1, (1,), 0, 0), (2, (1,), 0, 0)]
        self.assertEqual(longer(cutting, 0), ("span", 0, 2))
        self.refused(shorter, cutting, 0)
        self.assertEqual(shorter([(24, (1,), 0, 0)], 0), ("span", 0, 23))

    def test_numbers_beyond(self):
        for call in (longer, shorter):
            for number in (-1, -5, -6, 5, 6, 10 ** 59, -10 ** 59):
                self.refused(call, self.CUTTING, number)
            for number in (-1, 0, 1):
                self.refused(call, [], number)

    def test_they_are_wishes(self):
        for number in range(4):
            self.assertTrue(is_wish(9, longer(self.CUTTING, number)))
        for number in (0, 2, 4):
            self.assertTrue(is_wish(9, shorter(self.CUTTING, number)))

    def test_handed_in_stays(self):
        check_own(self, longer, copy.deepcopy(self.CUTTING), 0)
        check_own(self, shorter, copy.deepcopy(self.CUTTING), 0)


if __name__ == "__main__":
    unittest.main()
