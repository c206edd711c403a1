import copy
import heapq
import unittest

from signbench.cuttings import cutting_cost, first_cuttings, how_many, is_cutting, prices
from signbench.nets import is_net, is_rates
from tests.things import Numbers, at_once, check_own, same_kinds, spoilings, wrong_things

A = (1, (5,), 0, 10)
B = (1, (6,), 1, 3)
C = (2, (7, 7), 2, 30)
D = (2, (8,), 8, 4)
E = (3, (9,), 0, 1)
F = (3, (9,), 1, 20)
NET = [[A, B, C], [D], [E, F]]
FREE = ((0,) * 10,) * 10
# All its cuttings, as lists go.
CUTTINGS = [[A, D, E], [A, D, F], [B, D, E], [B, D, F], [C, E], [C, F]]


def rates_of(changes):
    return tuple(tuple(changes.get((a, b), 0) for b in range(10)) for a in range(10))


# Each number stands at one place alone, so that a cost tells which rates were taken.
RATES = rates_of({
    (9, 0): 100, (9, 1): 200, (9, 2): 150, (0, 8): 11, (1, 8): 12, (8, 0): 50, (8, 1): 1, (2, 0): 5, (2, 1): 6,
    (0, 9): 7, (1, 9): 17, (8, 9): 999, (0, 0): 999, (9, 9): 77,
})


def all_cuttings(net, at=0):
    if at == len(net):
        yield []
        return
    for piece in net[at]:
        for rest in all_cuttings(net, piece[0]):
            yield [piece] + rest


def plain_cost(rates, cutting):
    kinds = [9] + [piece[2] for piece in cutting] + [9]
    return sum(piece[3] for piece in cutting) + sum(rates[a][b] for a, b in zip(kinds, kinds[1:]))


def in_order(net, rates):
    return sorted((plain_cost(rates, cutting), cutting) for cutting in all_cuttings(net))


def least_to_end(net, rates):
    """By place and kind ahead the least cost of all that is still to come."""
    least = {(len(net), kind): rates[kind][9] for kind in range(10)}
    for place in reversed(range(len(net))):
        for kind in range(10):
            costs = [
                rates[kind][piece[2]] + piece[3] + least[(piece[0], piece[2])]
                for piece in net[place] if (piece[0], piece[2]) in least
            ]
            if costs:
                least[(place, kind)] = min(costs)
    return least


def first_by_search(net, rates, many):
    """The first cuttings in another way: the beginning that may become the cheapest is always led on first."""
    least = least_to_end(net, rates)
    heap = [(least[(0, 9)], [], 0)] if (0, 9) in least else []
    found = []
    while heap and len(found) < many:
        cost, cutting, spent = heapq.heappop(heap)
        at = cutting[-1][0] if cutting else 0
        ahead = cutting[-1][2] if cutting else 9
        if at == len(net):
            found.append((cost, cutting))
            continue
        for piece in net[at]:
            if (piece[0], piece[2]) in least:
                then = spent + rates[ahead][piece[2]] + piece[3]
                heapq.heappush(heap, (then + least[(piece[0], piece[2])], cutting + [piece], then))
    return found


def small_nets():
    numbers = Numbers(7)
    for at in range(400):
        net = numbers.net(numbers.below(7), 1 + at % 5, (1, 3, 50)[at % 3])
        yield net, numbers.rates((1, 2, 30)[numbers.below(3)])


def large_net(numbers, costs):
    """24 places and as many pieces at each of them as may be."""
    net = []
    for begin in range(24):
        pieces = {}
        while len(pieces) < 150:
            piece = (begin + 1 + numbers.below(24 - begin), numbers.row(1, 2, 1040), numbers.below(9),
                     numbers.below(costs))
            pieces[piece[:3]] = piece
        net.append(sorted(pieces.values()))
    return net


class WhetherACutting(unittest.TestCase):
    def right(self, net, thing):
        self.assertIs(is_cutting(net, thing), True, (net, thing))

    def wrong(self, net, thing):
        self.assertIs(is_cutting(net, thing), False, (net, thing))

    def test_all_cuttings(self):
        for cutting in CUTTINGS:
            self.right(NET, cutting)

    def test_the_net_without_places(self):
        self.right([], [])
        for thing in wrong_things() + [(), [A], [[]], [()]]:
            self.wrong([], thing)

    def test_no_pieces_are_no_cutting_of_places(self):
        self.wrong(NET, [])
        self.wrong([[]], [])
        self.wrong([[], []], [])

    def test_any_thing(self):
        for thing in wrong_things() + [[], ()]:
            self.wrong(NET, thing)
            self.wrong([[], []], thing)

    def test_gaps_ends_and_orders(self):
        for thing in (
            [A], [A, D], [C], [D, E], [E], [A, E], [C, D, E], [A, A, D, E], [A, D, E, E], [D, A, E], [C, E, F],
            [A, B, D, E], [A, D, E, A], [A, D, E, []], [A, D, E, None],
        ):
            self.wrong(NET, thing)

    def test_pieces_of_another_place(self):
        net = [[(1, (1,), 0, 0)], [(2, (2,), 0, 0)]]
        self.wrong(net, [(2, (2,), 0, 0)])
        self.wrong(net, [(1, (1,), 0, 0), (1, (1,), 0, 0)])

    def test_pieces_that_the_net_has_not(self):
        for at in range(4):
            for piece in (A[:at] + (2,) + A[at + 1:], A[:at] + ((6,),) + A[at + 1:]):
                self.wrong(NET, [piece, D, E])
        self.wrong(NET, [(1, (5,), 0, 11), D, E])
        self.wrong(NET, [(1, (5,), 1, 10), D, E])
        self.wrong(NET, [(1, (5, 5), 0, 10), D, E])

    def test_truths_that_python_takes_for_numbers(self):
        net = [[(1, (1, 0), 0, 1)]]
        self.right(net, [(1, (1, 0), 0, 1)])
        for piece in (
            (True, (1, 0), 0, 1), (1, (True, 0), 0, 1), (1, (1, False), 0, 1), (1, (1, 0), False, 1),
            (1, (1, 0), 0, True),
        ):
            self.assertIn(piece, net[0])
            self.wrong(net, [piece])

    def test_lists_and_tuples_the_other_way_about(self):
        self.wrong(NET, (A, D, E))
        self.wrong(NET, [list(A), D, E])
        self.wrong(NET, [(1, [5], 0, 10), D, E])

    def test_one_part_put_otherwise_left_out_or_put_in(self):
        for cutting in CUTTINGS:
            for spoilt in spoilings(cutting):
                self.assertIs(is_cutting(NET, spoilt), any(same_kinds(spoilt, other) for other in CUTTINGS), spoilt)

    def test_what_was_told_by_first_cuttings(self):
        for net, rates in small_nets():
            for cost, cutting in first_cuttings(net, rates, 20):
                self.right(net, cutting)

    def test_what_is_asked_is_not_changed(self):
        for thing in wrong_things() + copy.deepcopy(CUTTINGS):
            net, kept = copy.deepcopy(NET), copy.deepcopy(thing)
            is_cutting(net, thing)
            self.assertEqual((net, thing), (NET, kept))


class Costs(unittest.TestCase):
    def test_without_rates(self):
        self.assertEqual([cutting_cost(NET, FREE, cutting) for cutting in CUTTINGS], [15, 34, 8, 27, 31, 50])

    def test_with_rates_from_the_beginning_between_and_to_the_end(self):
        costs = [15 + 100 + 11 + 50 + 7, 34 + 100 + 11 + 1 + 17, 8 + 200 + 12 + 50 + 7, 27 + 200 + 12 + 1 + 17,
                 31 + 150 + 5 + 7, 50 + 150 + 6 + 17]
        self.assertEqual([cutting_cost(NET, RATES, cutting) for cutting in CUTTINGS], costs)

    def test_the_net_without_places(self):
        self.assertEqual(cutting_cost([], RATES, []), 77)
        self.assertEqual(cutting_cost([], FREE, []), 0)

    def test_kind_eight_at_both_ends(self):
        net = [[(1, (1,), 8, 5)]]
        self.assertEqual(cutting_cost(net, rates_of({(9, 8): 30, (8, 9): 400, (8, 8): 1, (9, 9): 2}), net[0]), 435)

    def test_costs_by_chance(self):
        for net, rates in small_nets():
            for cutting in list(all_cuttings(net))[:20]:
                self.assertEqual(cutting_cost(net, rates, cutting), plain_cost(rates, cutting))

    def test_twenty_four_pieces(self):
        net = [[(k + 1, (k,), k % 9, 99999)] for k in range(24)]
        cutting = [pieces[0] for pieces in net]
        self.assertEqual(cutting_cost(net, ((999,) * 10,) * 10, cutting), 24 * 99999 + 25 * 999)

    def test_handed_in_stays(self):
        check_own(self, cutting_cost, copy.deepcopy(NET), RATES, copy.deepcopy(CUTTINGS[0]))


class HowMany(unittest.TestCase):
    def test_by_hand(self):
        self.assertEqual(how_many(NET), 6)
        self.assertEqual(how_many([]), 1)
        self.assertEqual(how_many([[A]]), 1)

    def test_none(self):
        self.assertEqual(how_many([[]]), 0)
        self.assertEqual(how_many([[A], []]), 0)
        self.assertEqual(how_many([[], [D], [E]]), 0)
        self.assertEqual(how_many([[] for each in range(24)]), 0)

    def test_a_place_without_pieces_that_is_passed_by(self):
        self.assertEqual(how_many([[A, C], [], [E]]), 1)

    def test_one_by_one(self):
        for net, rates in small_nets():
            self.assertEqual(how_many(net), len(list(all_cuttings(net))))

    def test_far_too_many(self):
        net = [[(k + 1, (j,), 0, 0) for j in range(150)] for k in range(24)]
        with at_once(self):
            self.assertEqual(how_many(net), 150 ** 24)
        net = [[(end, (1,), 0, 0) for end in range(k + 1, 25)] for k in range(24)]
        with at_once(self):
            self.assertEqual(how_many(net), 2 ** 23)

    def test_handed_in_stays(self):
        check_own(self, how_many, copy.deepcopy(NET))


class FirstCuttings(unittest.TestCase):
    def test_by_hand(self):
        order = [(8, CUTTINGS[2]), (15, CUTTINGS[0]), (27, CUTTINGS[3]), (31, CUTTINGS[4]), (34, CUTTINGS[1]),
                 (50, CUTTINGS[5])]
        for many in range(7):
            self.assertEqual(first_cuttings(NET, FREE, many), order[:many])
        self.assertEqual(first_cuttings(NET, FREE, 20), order)

    def test_rates_change_the_order(self):
        order = [(163, CUTTINGS[1]), (183, CUTTINGS[0]), (193, CUTTINGS[4]), (223, CUTTINGS[5]), (257, CUTTINGS[3]),
                 (277, CUTTINGS[2])]
        self.assertEqual(first_cuttings(NET, RATES, 20), order)
        self.assertEqual(first_cuttings(NET, RATES, 1), order[:1])

    def test_the_net_without_places(self):
        self.assertEqual(first_cuttings([], RATES, 0), [])
        self.assertEqual(first_cuttings([], RATES, 1), [(77, [])])
        self.assertEqual(first_cuttings([], RATES, 20), [(77, [])])

    def test_a_net_without_any_cutting(self):
        for net in ([[]], [[A], []], [[], [D], [E]], [[] for each in range(24)]):
            for many in (0, 1, 20):
                self.assertEqual(first_cuttings(net, RATES, many), [])

    def test_none_asked(self):
        self.assertEqual(first_cuttings(NET, RATES, 0), [])

    def test_the_rate_to_the_end_decides(self):
        net = [[(1, (1,), 0, 5), (1, (1,), 1, 5)]]
        self.assertEqual(first_cuttings(net, rates_of({(0, 9): 1}), 2), [(5, [net[0][1]]), (6, [net[0][0]])])
        self.assertEqual(first_cuttings(net, rates_of({(1, 9): 1}), 2), [(5, [net[0][0]]), (6, [net[0][1]])])

    def test_the_rate_from_the_beginning_decides(self):
        net = [[(1, (1,), 0, 5), (1, (1,), 8, 5)]]
        self.assertEqual(first_cuttings(net, rates_of({(9, 0): 1}), 1), [(5, [net[0][1]])])
        self.assertEqual(first_cuttings(net, rates_of({(9, 8): 1}), 1), [(5, [net[0][0]])])

    def test_a_dearer_way_to_a_place_may_be_the_cheaper_one_on(self):
        net = [[(1, (1,), 0, 1), (1, (1,), 1, 2)], [(2, (3,), 2, 0)]]
        self.assertEqual(first_cuttings(net, rates_of({(0, 2): 10}), 2), [(2, [net[0][1], net[1][0]]),
                                                                         (11, [net[0][0], net[1][0]])])

    def test_like_costs_go_as_lists_go(self):
        net = [[(k + 1, (1,), 0, 0), (k + 1, (1,), 1, 0), (k + 1, (2,), 0, 0)] for k in range(4)]
        expected = [(0, cutting) for cutting in sorted(all_cuttings(net))]
        self.assertEqual(first_cuttings(net, FREE, 20), expected[:20])
        net = [[(end, (1,), 0, end - begin) for end in range(begin + 1, 7)] for begin in range(6)]
        expected = [(6, cutting) for cutting in sorted(all_cuttings(net))]
        self.assertEqual(first_cuttings(net, FREE, 20), expected[:20])

    def test_one_by_one(self):
        for net, rates in small_nets():
            self.assertTrue(is_net(net) and is_rates(rates))
            expected = in_order(net, rates)
            for many in (0, 1, 2, 7, 20):
                self.assertEqual(first_cuttings(net, rates, many), expected[:many], (net, rates))

    def test_nets_with_far_too_many_cuttings(self):
        numbers = Numbers(19)
        for costs, bound in ((100000, 1000), (5, 3), (1, 1)):
            net, rates = large_net(numbers, costs), numbers.rates(bound)
            self.assertTrue(is_net(net))
            self.assertGreater(how_many(net), 10 ** 20)
            with at_once(self):
                told = first_cuttings(net, rates, 20)
            self.assertEqual(len(told), 20)
            self.assertEqual(told, first_by_search(net, rates, 20))
            self.assertEqual(first_cuttings(net, rates, 1), told[:1])

    def test_single_places_with_a_hundred_and_fifty_pieces(self):
        net = [[(k + 1, (j,), j % 9, j) for j in range(150)] for k in range(24)]
        with at_once(self):
            told = first_cuttings(net, FREE, 20)
        best = [pieces[0] for pieces in net]
        self.assertEqual(told[0], (0, best))
        # The nineteen next ones have the second piece at one place, the last places first.
        others = [best[:k] + [net[k][1]] + best[k + 1:] for k in reversed(range(24))]
        self.assertEqual(told[1:], [(1, other) for other in others[:19]])

    def test_each_once(self):
        for net, rates in small_nets():
            told = [cutting for cost, cutting in first_cuttings(net, rates, 20)]
            self.assertEqual(len(told), len({tuple(cutting) for cutting in told}))

    def test_handed_in_stays_and_told_is_the_askers_own(self):
        for many in (0, 1, 20):
            check_own(self, first_cuttings, copy.deepcopy(NET), RATES, many)
            check_own(self, first_cuttings, [], RATES, many)
            check_own(self, first_cuttings, [[]], RATES, many)

    def test_the_kinds_of_what_is_told(self):
        told = first_cuttings(NET, RATES, 3)
        self.assertIs(type(told), list)
        for each in told:
            self.assertIs(type(each), tuple)
            self.assertEqual([type(part) for part in each], [int, list])


class Prices(unittest.TestCase):
    def test_by_hand(self):
        self.assertEqual(prices(NET, FREE), [[(9, 0)], [(0, 10), (1, 3)], [(2, 30), (8, 7)], [(0, 8), (1, 27)]])
        self.assertEqual(prices(NET, RATES), [
            [(9, 0)], [(0, 110), (1, 203)], [(2, 180), (8, 125)], [(0, 176), (1, 146)],
        ])

    def test_the_net_without_places(self):
        self.assertEqual(prices([], RATES), [[(9, 0)]])

    def test_rates_to_the_end_are_left_out(self):
        self.assertEqual(prices([[A]], rates_of({(0, 9): 500})), [[(9, 0)], [(0, 10)]])

    def test_places_that_no_way_leads_to(self):
        self.assertEqual(prices([[], [D], [E]], FREE), [[(9, 0)], [], [], []])
        self.assertEqual(prices([[A], [], [E]], FREE), [[(9, 0)], [(0, 10)], [], []])
        self.assertEqual(prices([[C], [D], [E]], FREE), [[(9, 0)], [], [(2, 30)], [(0, 31)]])

    def test_all_ways_one_by_one(self):
        for net, rates in small_nets():
            least = [{9: 0}] + [{} for each in net]
            for place in range(len(net)):
                cut_off = [[piece for piece in pieces if piece[0] <= place + 1] for pieces in net[:place + 1]]
                for way in all_cuttings(cut_off):
                    cost = plain_cost(rates, way) - rates[way[-1][2]][9]
                    known = least[place + 1].get(way[-1][2], cost)
                    least[place + 1][way[-1][2]] = min(known, cost)
            self.assertEqual(prices(net, rates), [sorted(found.items()) for found in least])

    def test_they_bar_a_cheaper_cutting(self):
        numbers = Numbers(29)
        nets = [(large_net(numbers, 100000), numbers.rates(1000)), (large_net(numbers, 3), numbers.rates(2))]
        for net, rates in list(small_nets()) + nets:
            with at_once(self):
                told = prices(net, rates)
            first = first_cuttings(net, rates, 1)
            ends = [price + rates[kind][9] for kind, price in told[-1]]
            self.assertEqual([cost for cost, cutting in first], [min(ends)] if ends else [])
            self.assertEqual(bool(ends), how_many(net) > 0)

    def test_no_piece_leads_to_less_than_the_price(self):
        numbers = Numbers(37)
        net, rates = large_net(numbers, 1000), numbers.rates(1000)
        told = [dict(found) for found in prices(net, rates)]
        reached = [{9: 0}] + [{} for each in net]
        for place, pieces in enumerate(net):
            for end, signs, kind, cost in pieces:
                for ahead, price in told[place].items():
                    known = reached[end].get(kind, 10 ** 9)
                    reached[end][kind] = min(known, price + rates[ahead][kind] + cost)
        self.assertEqual(reached, told)

    def test_handed_in_stays_and_told_is_the_askers_own(self):
        check_own(self, prices, copy.deepcopy(NET), RATES)
        check_own(self, prices, [], RATES)
        check_own(self, prices, [[], []], RATES)

    def test_the_kinds_of_what_is_told(self):
        for found in prices(NET, RATES):
            self.assertIs(type(found), list)
            for each in found:
                self.assertIs(type(each), tuple)
                self.assertEqual([type(part) for part in each], [int, int])


class SomewhatBeyond(unittest.TestCase):
    """What lies somewhat beyond the bounds is not refused."""

    NET = [[(k + 1, (j,), 0, 100000 + j) for j in range(160)] for k in range(26)]

    def test_net_and_cuttings(self):
        first = [pieces[0] for pieces in self.NET]
        self.assertFalse(is_net(self.NET))
        self.assertIs(is_cutting(self.NET, first), True)
        self.assertEqual(cutting_cost(self.NET, FREE, first), 2600000)
        self.assertEqual(how_many(self.NET), 160 ** 26)
        self.assertEqual(prices(self.NET, FREE)[-1], [(0, 2600000)])

    def test_more_than_twenty_asked(self):
        self.assertEqual(first_cuttings(NET, FREE, 30), first_cuttings(NET, FREE, 20))
        self.assertEqual(len(first_cuttings(self.NET, FREE, 25)), 25)


if __name__ == "__main__":
    unittest.main()
