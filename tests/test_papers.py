import copy
import unittest

from signbench.cuttings import first_cuttings, prices
from signbench.keys import end_keys, fewest_keys, is_table, key_standings, press, read_keys
from signbench.learning import net_of
from signbench.looker import holds
from signbench.nets import is_net, is_rates
from signbench.papers import cutting_paper, keys_paper
from signbench.wishes import fighting, thinned
from tests.test_cuttings import CUTTINGS, FREE, NET, RATES, in_order
from tests.test_wishes import all_wishes, full_net, is_kept, is_plainly_wish, rows_of_wishes
from tests.things import (
    Numbers, at_once, book_of, check_own, is_number_of, is_row_of, other_kinds, same_kinds, spoilings, wrong_things,
)

TABLE = [((0,), (1,), ()), ((0, 1), (2,), ()), ((1,), (3,), ()), ((2, 2), (4,), (2,)), ((2, 0), (5, 1), ())]
EVER = 10 ** 59


def is_whole_from(thing, low):
    return type(thing) is int and thing >= low


def may_wait_plainly(table, thing):
    if not is_row_of(thing, 0, 3, 25):
        return False
    return thing == () or any(row[0][:len(thing)] == thing and row[0] != thing for row in table)


def keys_hold_plainly(thing):
    """The words of the document once more, for papers of keys."""
    if type(thing) is not tuple or len(thing) != 5 or thing[0] != "keys":
        return False
    word, table, sounds, keys, standings = thing
    if not is_table(table) or type(sounds) is not list or not is_row_of(tuple(sounds), 0, 24, 39):
        return False
    if type(standings) is not list or not all(type(each) is tuple and len(each) == 3 for each in standings):
        return False
    for place, waiting, many in standings:
        if not is_number_of(place, 0, len(sounds)) or not is_whole_from(many, 0):
            return False
        if not may_wait_plainly(table, waiting):
            return False
    if len({each[:2] for each in standings}) != len(standings) or (0, (), 0) not in standings:
        return False
    for place, waiting, many in standings:
        for key in range(26):
            told, lost, then = press(table, waiting, key)
            if lost or told != sounds[place:place + len(told)]:
                continue
            if not [each for each in standings if each[:2] == (place + len(told), then) and each[2] <= many + 1]:
                return False
    ends = [each for each in standings if end_keys(table, each[1]) == (sounds[each[0]:], [])]
    if keys is None:
        return not ends
    if type(keys) is not list or not is_row_of(tuple(keys), 0, 20000, 25):
        return False
    return read_keys(table, keys) == (sounds, []) and all(each[2] >= len(keys) for each in ends)


def cutting_holds_plainly(thing):
    """The words of the document once more, for papers of cuttings."""
    if type(thing) is not tuple or len(thing) != 6 or thing[0] != "cutting":
        return False
    word, net, rates, wishes, told, cutting = thing
    if not is_net(net) or not is_rates(rates) or type(wishes) is not list or len(wishes) > 12:
        return False
    if not all(is_plainly_wish(len(net), wish) for wish in wishes):
        return False
    if type(told) is not list or len(told) != len(net) + 1:
        return False
    for row in told:
        if type(row) is not list or not all(type(each) is tuple and len(each) == 2 for each in row):
            return False
        if not all(is_number_of(kind, 0, 9) and type(price) is int for kind, price in row):
            return False
        if len({kind for kind, price in row}) != len(row):
            return False
    if told[0] != [(9, 0)]:
        return False
    left = thinned(net, wishes)
    for begin, pieces in enumerate(left):
        for end, signs, kind, cost in pieces:
            for ahead, price in told[begin]:
                if not [each for each in told[end] if each[0] == kind and each[1] <= price + rates[ahead][kind] + cost]:
                    return False
    if cutting is None:
        return not told[-1]
    costs = [cost for cost, known in in_order(left, rates) if same_kinds(known, cutting)]
    return bool(costs) and all(costs[0] <= price + rates[kind][9] for kind, price in told[-1])


class LookerTest(unittest.TestCase):
    def right(self, thing):
        self.assertIs(holds(thing), True, thing)

    def wrong(self, thing):
        self.assertIs(holds(thing), False, thing)


class KeysPapers(LookerTest):
    def paper(self, standings=None, keys=None, sounds=None, table=TABLE):
        """A paper of these parts, the others as they are told."""
        sounds = [2, 5, 1] if sounds is None else sounds
        told = keys_paper(table, sounds)
        return (
            "keys", list(table), sounds, told[3] if keys is None else keys, told[4] if standings is None else standings,
        )

    def test_told_by_hand(self):
        told = keys_paper(TABLE, [2, 5, 1])
        expected = ("keys", TABLE, [2, 5, 1], [0, 1, 2, 0], [
            (0, (), 0), (0, (0,), 1), (0, (2,), 1), (1, (), 2), (1, (0,), 3), (1, (2,), 3), (3, (), 4), (3, (0,), 5),
            (3, (2,), 5),
        ])
        self.assertTrue(same_kinds(told, expected), told)
        self.right(told)

    def test_standings_and_keys_as_they_are_told(self):
        numbers = Numbers(7)
        for each in range(120):
            table = numbers.table(numbers.below(9), 3, 2)
            sounds = list(numbers.row(0, 6, 3))
            told = keys_paper(table, sounds)
            expected = ("keys", table, sounds, fewest_keys(table, sounds), key_standings(table, sounds))
            self.assertTrue(same_kinds(told, expected))
            self.right(told)
            self.assertTrue(keys_hold_plainly(told))

    def test_no_sounds(self):
        for table in ([], TABLE):
            told = keys_paper(table, [])
            self.assertEqual(told[3], [])
            self.right(told)

    def test_no_keys(self):
        for table, sounds in (([], [1]), (TABLE, [9]), (TABLE, [5]), (TABLE, [1, 1, 7])):
            told = keys_paper(table, sounds)
            self.assertIsNone(told[3])
            self.right(told)
            for keys in ([], [0], [0, 1]):
                self.wrong(told[:3] + (keys,) + told[4:])
        told = keys_paper(TABLE, [1])
        self.wrong(told[:3] + (None,) + told[4:])

    def test_none_holds_with_more_standings_but_not_with_an_end(self):
        table = [((0,), (1,), ()), ((1, 1), (2,), ())]
        told = keys_paper(table, [1, 5])
        self.right(told[:4] + (told[4] + [(2, (1,), 0)],))
        self.wrong(told[:4] + (told[4] + [(2, (), 0), (2, (1,), 0)],))

    def test_twenty_four_sounds_with_a_full_table(self):
        numbers = Numbers(9)
        table = numbers.table(40, 25, 3)
        table = table[:34] + [((k,), (k,), ()) for k in range(4) if (k,) not in [row[0] for row in table[:34]]]
        with at_once(self):
            told = keys_paper(table, [0, 1, 2, 3] * 6)
            self.right(told)

    def test_more_keys_than_sixty(self):
        table = [((0, 0, 0, 0), (1,), ()), ((1,), (), ())]
        told = keys_paper(table, [1] * 24)
        self.assertEqual(told[3], [0] * 96)
        self.right(told)

    def test_a_long_row_of_keys(self):
        table = [((0, 1, 2, 3), (), (0, 1, 2)), ((4,), (1,), ())]
        told = keys_paper(table, [1])
        with at_once(self):
            self.wrong(told[:3] + ([4] + [0, 1, 2, 3] * 4900,) + told[4:])

    def test_in_another_order(self):
        told = self.paper()
        self.right(told[:4] + (told[4][::-1],))
        self.right(told[:4] + (told[4][3:] + told[4][:3],))

    def test_one_left_out(self):
        # From each of them a press leads back to the others, or it is the beginning.
        told = self.paper()
        for at in range(len(told[4])):
            self.wrong(told[:4] + (told[4][:at] + told[4][at + 1:],))
        self.wrong(told[:4] + ([],))

    def test_one_twice(self):
        told = self.paper()
        for at, (place, waiting, many) in enumerate(told[4]):
            for other in (many, many + 1, 0):
                self.wrong(told[:4] + (told[4] + [(place, waiting, other)],))

    def test_one_count_more(self):
        told = self.paper()
        for at, (place, waiting, many) in enumerate(told[4]):
            self.wrong(told[:4] + (told[4][:at] + [(place, waiting, many + 1)] + told[4][at + 1:],))

    def test_counts_less_than_they_might_be(self):
        # Standings that no end needs may lie as near as one likes.
        told = self.paper()
        for at, (place, waiting, many) in enumerate(told[4]):
            less = told[:4] + (told[4][:at] + [(place, waiting, many - 1)] + told[4][at + 1:],)
            self.assertIs(holds(less), keys_hold_plainly(less), less)
        self.assertEqual(told[4][-1], (3, (2,), 5))
        self.right(told[:4] + (told[4][:-1] + [(3, (2,), 0)],))

    def test_an_end_whose_count_is_less(self):
        told = self.paper()
        self.assertEqual(told[4][6], (3, (), 4))
        self.wrong(told[:4] + (told[4][:6] + [(3, (), 3)] + told[4][7:],))

    def test_more_standings_than_there_are(self):
        table = [((0,), (1,), ()), ((1, 1), (2,), ())]
        told = keys_paper(table, [1, 2])
        self.assertEqual(told[4], [(0, (), 0), (0, (1,), 1), (1, (), 1), (1, (1,), 2), (2, (), 3), (2, (1,), 4)])
        other = keys_paper(table, [2, 2])
        self.assertEqual(other[4], [(0, (), 0), (0, (1,), 1), (1, (), 2), (1, (1,), 3), (2, (), 4), (2, (1,), 5)])
        unreached = keys_paper(table, [3, 1])
        self.assertEqual(unreached[4], [(0, (), 0), (0, (1,), 1)])
        for more in ([(2, (1,), 3)], [(1, (1,), 99)], [(2, (1,), EVER)], [(2, (), 5), (2, (1,), 6)]):
            thing = unreached[:4] + (unreached[4] + more,)
            self.assertIs(holds(thing), keys_hold_plainly(thing), thing)
        self.right(unreached[:4] + (unreached[4] + [(2, (1,), EVER)],))
        # Each one that is there is to lead on, also one that isn't reached.
        self.wrong(unreached[:4] + (unreached[4] + [(1, (), 5)],))

    def test_keys_that_are_not_the_fewest(self):
        table = [((0,), (1,), ()), ((1, 1), (1,), ()), ((2,), (), ())]
        told = keys_paper(table, [1])
        self.assertEqual(told[3], [0])
        for keys in ([1, 1], [2, 0], [0, 2], [2, 2, 0], [0, 0], [], [1], [3], [0, 3], [3, 0]):
            self.wrong(told[:3] + (keys,) + told[4:])

    def test_other_keys_that_are_as_few(self):
        table = [((0,), (1,), ()), ((1,), (1,), ())]
        told = keys_paper(table, [1])
        self.assertEqual(told[3], [0])
        self.right(told[:3] + ([1],) + told[4:])
        self.wrong(told[:3] + ([2],) + told[4:])

    def test_keys_that_lose_one(self):
        told = self.paper()
        for keys in ([7, 0, 1, 2, 0], [0, 1, 2, 0, 7], [0, 1, 7, 2, 0]):
            self.wrong(told[:3] + (keys,) + told[4:])

    def test_waiting_keys_that_can_not_wait(self):
        told = self.paper()
        for waiting in ((1,), (0, 1), (2, 2), (3,), (2, 2, 2), (0, 0), (25,)):
            self.wrong(told[:4] + (told[4] + [(0, waiting, 9)],))

    def test_numbers_one_beyond_a_bound(self):
        told = self.paper()
        for standing in ((4, (0,), 9), (-1, (0,), 9), (3, (26,), 9), (3, (-1,), 9)):
            self.wrong(told[:4] + (told[4] + [standing],))
        self.wrong(("keys", TABLE, [40], None, [(0, (), 0), (0, (0,), 1), (0, (2,), 1)]))
        self.wrong(("keys", TABLE, [39] * 25, None, [(0, (), 0), (0, (0,), 1), (0, (2,), 1)]))
        self.right(("keys", TABLE, [39] * 24, None, [(0, (), 0), (0, (0,), 1), (0, (2,), 1)]))
        self.wrong(("keys", [((k // 26, k % 26), (), ()) for k in range(41)], [9], None, [(0, (), 0)]))

    def test_any_thing_in_the_place_of_each_part(self):
        told = self.paper()
        for at in range(5):
            for thing in wrong_things() + [[], ()]:
                spoilt = told[:at] + (thing,) + told[at + 1:]
                self.assertIs(holds(spoilt), keys_hold_plainly(spoilt), spoilt)

    def test_one_part_put_otherwise_left_out_or_put_in(self):
        let_by = 0
        for table, sounds in ((TABLE[:3], [2]), (TABLE[:1], []), ([], [1]), ([((0, 1), (1,), ())], [1])):
            told = keys_paper(table, sounds)
            for spoilt in spoilings(told):
                kept = copy.deepcopy(spoilt)
                self.assertIs(holds(spoilt), keys_hold_plainly(spoilt), spoilt)
                self.assertTrue(same_kinds(spoilt, kept))
                if holds(spoilt):
                    let_by += 1
                    self.is_so(spoilt)
        self.assertGreater(let_by, 0)

    def is_so(self, paper):
        """What the paper says is so: these are keys for the sounds, and none are fewer."""
        word, table, sounds, keys, standings = paper
        fewest = fewest_keys(table, sounds)
        self.assertEqual(keys is None, fewest is None)
        if keys is not None:
            self.assertEqual(read_keys(table, keys), (sounds, []))
            self.assertEqual(len(keys), len(fewest))

    def test_papers_changed_by_chance(self):
        numbers = Numbers(61)
        let_by = 0
        for each in range(1500):
            table = numbers.table(1 + numbers.below(5), 2, 1)
            sounds = list(numbers.row(0, 3, 2))
            word, table, sounds, keys, standings = keys_paper(table, sounds)
            for other in range(numbers.below(3)):
                at = numbers.below(len(standings) + 1)
                new = (numbers.below(len(sounds) + 1), numbers.row(0, 2, 3), numbers.below(8))
                standings[at:at + numbers.below(2)] = [new][:numbers.below(2)]
            if numbers.below(2):
                keys = [None, list(numbers.row(0, 4, 3))][numbers.below(2)]
            paper = ("keys", table, sounds, keys, standings)
            self.assertIs(holds(paper), keys_hold_plainly(paper), paper)
            if holds(paper):
                let_by += 1
                self.is_so(paper)
        self.assertGreater(let_by, 100)

    def test_handed_in_stays_and_told_is_the_askers_own(self):
        for table, sounds in ((list(TABLE), [2, 5, 1]), ([], []), (list(TABLE), [9])):
            check_own(self, keys_paper, table, sounds)
            check_own(self, holds, keys_paper(TABLE, [2, 5, 1]))


class CuttingPapers(LookerTest):
    def changed(self, paper, at, part):
        return paper[:at] + (part,) + paper[at + 1:]

    def test_told_by_hand(self):
        told = cutting_paper(NET, RATES, [])
        expected = ("cutting", NET, RATES, [], prices(NET, RATES), in_order(NET, RATES)[0][1])
        self.assertTrue(same_kinds(told, expected), told)
        self.right(told)

    def test_prices_and_cutting_of_the_thinned_net(self):
        for wishes in ([("border", 1)], [("joined", 1)], [("span", 0, 2)], [("held", 1, 2, (8,)), ("border", 2)]):
            told = cutting_paper(NET, RATES, wishes)
            left = thinned(NET, wishes)
            expected = ("cutting", NET, RATES, wishes, prices(left, RATES), in_order(left, RATES)[0][1])
            self.assertTrue(same_kinds(told, expected), told)
            self.right(told)
            self.assertTrue(cutting_holds_plainly(told))

    def test_the_net_without_places(self):
        for rates in (FREE, RATES):
            told = cutting_paper([], rates, [])
            self.assertTrue(same_kinds(told, ("cutting", [], rates, [], [[(9, 0)]], [])))
            self.right(told)
            self.wrong(self.changed(told, 5, None))
            for wrong in (
                [[]], [], [[(9, 1)]], [[(9, -1)]], [[(8, 0)]], [[(9, 0), (8, 0)]], [[(9, 0)], []], [[(9, False)]],
            ):
                self.wrong(self.changed(told, 4, wrong))
                self.wrong(self.changed(self.changed(told, 4, wrong), 5, None))

    def test_no_cutting(self):
        for net, wishes in (
            ([[]], []), ([[], [(2, (1,), 0, 0)]], []), (NET, [("joined", 2)]),
            ([[(2, (1,), 0, 0)], []], [("border", 1)]),
        ):
            told = cutting_paper(net, RATES, wishes)
            self.assertIsNone(told[5])
            self.assertEqual(told[4][-1], [])
            self.right(told)
            for cutting in ([], [(1, (1,), 0, 0)], CUTTINGS[0]):
                self.wrong(self.changed(told, 5, cutting))
            # A price at the end that no way needs bars that there is none.
            self.wrong(self.changed(told, 4, told[4][:-1] + [[(0, 5)]]))

    def test_wishes_that_fight(self):
        for wishes in ([("border", 1), ("span", 0, 2)], [("held", 0, 1, (5,)), ("held", 0, 1, (6,))]):
            self.assertIsNotNone(fighting(wishes))
            told = cutting_paper(NET, RATES, wishes)
            self.assertIsNone(told[5])
            self.right(told)

    def test_twelve_wishes_and_one_more(self):
        net = full_net(8)
        wishes = [("border", g) for g in range(1, 8)] + [("span", k, k + 1) for k in range(5)]
        self.assertEqual(len(wishes), 12)
        told = cutting_paper(net, RATES, wishes)
        self.right(told)
        self.right(self.changed(told, 3, wishes[::-1]))
        self.wrong(self.changed(told, 3, wishes + [("span", 5, 6)]))
        self.wrong(self.changed(told, 3, wishes + [("border", 1)]))

    def test_wishes_for_other_places(self):
        told = cutting_paper(NET, RATES, [])
        for wish in (("border", 0), ("border", 3), ("joined", 3), ("span", 0, 4), ("span", 1, 1), ("held", 0, 1, ())):
            self.wrong(self.changed(told, 3, [wish]))

    def test_a_wish_that_the_cutting_keeps_and_one_that_it_does_not(self):
        told = cutting_paper(NET, RATES, [])
        for wish in all_wishes(3):
            thing = self.changed(told, 3, [wish])
            # Prices of all pieces bar more than is needed where fewer are left.
            if is_kept(wish, told[5]):
                self.right(thing)
            else:
                self.wrong(thing)

    def test_cuttings_that_are_not_the_cheapest(self):
        told = cutting_paper(NET, RATES, [])
        for cost, cutting in in_order(NET, RATES)[1:]:
            self.wrong(self.changed(told, 5, cutting))
        self.wrong(self.changed(told, 5, None))
        self.wrong(self.changed(told, 5, []))

    def test_another_cutting_of_like_cost(self):
        net = [[(1, (1,), 0, 5), (1, (2,), 0, 5)]]
        told = cutting_paper(net, FREE, [])
        self.assertEqual(told[5], [(1, (1,), 0, 5)])
        self.right(self.changed(told, 5, [(1, (2,), 0, 5)]))

    def test_prices_in_another_order(self):
        told = cutting_paper(NET, RATES, [])
        self.right(self.changed(told, 4, [row[::-1] for row in told[4]]))

    def test_one_price_more_left_out_or_twice(self):
        told = cutting_paper(NET, RATES, [])
        for place, row in enumerate(told[4]):
            for at, (kind, price) in enumerate(row):
                for new in ([(kind, price + 1)], [], [(kind, price)] * 2, [(kind, price), (kind, price - 1)]):
                    other = told[4][:place] + [row[:at] + new + row[at + 1:]] + told[4][place + 1:]
                    self.wrong(self.changed(told, 4, other))

    def test_prices_less_than_they_might_be(self):
        told = cutting_paper(NET, RATES, [])
        found = {True: 0, False: 0}
        for place, row in enumerate(told[4]):
            for at, (kind, price) in enumerate(row):
                for less in (1, 5, 60, 10 ** 6):
                    other = told[4][:place] + [row[:at] + [(kind, price - less)] + row[at + 1:]] + told[4][place + 1:]
                    thing = self.changed(told, 4, other)
                    self.assertIs(holds(thing), cutting_holds_plainly(thing), thing)
                    found[holds(thing)] += 1
        self.assertGreater(min(found.values()), 0)

    def test_more_prices_than_there_are(self):
        told = cutting_paper(NET, FREE, [])
        known = [kind for kind, price in told[4][3]]
        for kind in range(10):
            if kind not in known:
                self.right(self.changed(told, 4, told[4][:3] + [told[4][3] + [(kind, EVER)]]))
                self.wrong(self.changed(told, 4, told[4][:3] + [told[4][3] + [(kind, -EVER)]]))
        self.wrong(self.changed(told, 4, told[4] + [[]]))
        self.wrong(self.changed(told, 4, told[4][:-1]))

    def test_prices_below_nought(self):
        # From kind 3 the only piece on is dear enough, so its price may lie below nought.
        net = [[(1, (1,), 3, 0)], [(2, (1,), 0, 50)]]
        told = cutting_paper(net, FREE, [])
        self.wrong(self.changed(told, 4, [[(9, 0)], [(3, -1)], [(0, 50)]]))
        self.right(self.changed(told, 4, [[(9, 0)], [(3, 0), (4, EVER)], [(0, 50)]]))
        other = cutting_paper([[(1, (1,), 3, 0), (2, (1,), 0, 10)], []], FREE, [])
        self.right(self.changed(other, 4, [[(9, 0)], [(3, -EVER)], [(0, 10)]]))

    def test_kinds_beyond_the_bounds(self):
        told = cutting_paper(NET, FREE, [])
        for kind in (-1, 10, EVER):
            self.wrong(self.changed(told, 4, told[4][:3] + [told[4][3] + [(kind, EVER)]]))
        for kind in (True, None, "0", 0.0):
            self.wrong(self.changed(told, 4, told[4][:3] + [[(kind, EVER)]]))

    def test_large_nets(self):
        numbers = Numbers(71)
        net = [
            sorted({
                (begin + 1 + numbers.below(min(24 - begin, 5)), numbers.row(1, 3, 9), numbers.below(9)): 0
                for each in range(150)
            })
            for begin in range(24)
        ]
        net = [[piece + (numbers.below(9999),) for piece in pieces] for pieces in net]
        with at_once(self):
            told = cutting_paper(net, numbers.rates(999), [("border", 12), ("joined", 5)])
            self.right(told)
            cost, cutting = first_cuttings(thinned(net, told[3]), told[2], 2)[1]
            if cost > first_cuttings(thinned(net, told[3]), told[2], 1)[0][0]:
                self.wrong(self.changed(told, 5, cutting))

    def test_nets_of_books(self):
        book = book_of(((1, 2), (10,), 0, 500), ((2, 3), (11,), 1, 400), ((1, 2, 3), (12, 13), 2, 3000))
        for wishes in ([], [("border", 1)], [("held", 0, 2, (10,))], [("span", 1, 3)]):
            self.right(cutting_paper(net_of(book, [], [1, 2, 3]), RATES, wishes))

    def test_nets_and_wishes_by_chance(self):
        numbers = Numbers(73)
        for n, wishes in rows_of_wishes(150, 75):
            net = numbers.net(n, 4, 60)
            rates = numbers.rates(50)
            told = cutting_paper(net, rates, wishes)
            self.right(told)
            self.assertTrue(cutting_holds_plainly(told))
            self.is_so(told)

    def is_so(self, paper):
        """What the paper says is so: none that keeps all wishes is cheaper."""
        word, net, rates, wishes, told, cutting = paper
        known = [each for each in in_order(net, rates) if all(is_kept(wish, each[1]) for wish in wishes)]
        self.assertEqual(cutting is None, not known)
        if cutting is not None:
            self.assertIn((known[0][0], cutting), known)

    def test_any_thing(self):
        for thing in wrong_things() + [[], (), "keys", "cutting", ("keys",), ("cutting",)]:
            self.wrong(thing)
        told = cutting_paper(NET, RATES, [])
        for at in range(6):
            for thing in wrong_things() + [[], ()]:
                spoilt = self.changed(told, at, thing)
                self.assertIs(holds(spoilt), cutting_holds_plainly(spoilt), spoilt)

    def test_words(self):
        told, other = cutting_paper(NET, RATES, []), keys_paper(TABLE, [1])
        for word in ("keys", "Cutting", "", "cuttings", None, True, 0, ["cutting"], ("cutting",)):
            self.wrong((word,) + told[1:])
        for word in ("cutting", "Keys", "", "key", None, True, 0, ["keys"], ("keys",)):
            self.wrong((word,) + other[1:])
        self.wrong(list(told))
        self.wrong(list(other))
        self.wrong(told + (None,))
        self.wrong(other + (None,))
        self.wrong(other + (other[-1],))

    def test_one_part_put_otherwise_left_out_or_put_in(self):
        let_by = 0
        for net, wishes in (
            ([[(1, (5,), 0, 10), (2, (7,), 1, 8)], [(2, (6,), 0, 10)]], [("border", 1)]),
            ([[(1, (5,), 0, 10)], []], [("held", 0, 1, (5,))]), ([], []),
        ):
            told = cutting_paper(net, FREE, wishes)
            for spoilt in self.parts_spoilt(told):
                self.assertIs(holds(spoilt), cutting_holds_plainly(spoilt), spoilt)
                if holds(spoilt):
                    let_by += 1
                    self.is_so(spoilt)
        self.assertGreater(let_by, 0)

    def parts_spoilt(self, told):
        for at in (1, 3, 4, 5):
            for part in spoilings(told[at]):
                yield self.changed(told, at, part)
        for spoilt in other_kinds(told):
            yield spoilt
        for row in spoilings(told[2][0]):
            yield self.changed(told, 2, (row,) + told[2][1:])
        yield self.changed(told, 2, told[2][1:])
        yield self.changed(told, 2, told[2] + told[2][:1])

    def test_papers_changed_by_chance(self):
        numbers = Numbers(77)
        let_by = 0
        for n, wishes in rows_of_wishes(1200, 79):
            n, wishes = min(n, 4), [wish for wish in wishes if is_plainly_wish(min(n, 4), wish)][:2]
            paper = cutting_paper(numbers.net(n, 3, 9), numbers.rates(4), wishes)
            word, net, rates, wishes, told, cutting = paper
            for other in range(numbers.below(3)):
                row = told[numbers.below(len(told))]
                at = numbers.below(len(row) + 1)
                row[at:at + numbers.below(2)] = [(numbers.below(10), numbers.below(30) - 5)][:numbers.below(2)]
            if numbers.below(2):
                known = [None] + [each for cost, each in in_order(net, rates)]
                cutting = known[numbers.below(len(known))]
            paper = (word, net, rates, wishes, told, cutting)
            self.assertIs(holds(paper), cutting_holds_plainly(paper), paper)
            if holds(paper):
                let_by += 1
                self.is_so(paper)
        self.assertGreater(let_by, 100)

    def test_handed_in_stays_and_told_is_the_askers_own(self):
        for net, wishes in (([list(row) for row in NET], [("border", 1)]), ([], []), ([[]], [])):
            check_own(self, cutting_paper, net, RATES, wishes)
        check_own(self, holds, cutting_paper(NET, RATES, [("border", 1)]))


if __name__ == "__main__":
    unittest.main()
