import copy
import unittest

from signbench.nets import is_net, is_rates
from tests.things import Numbers, is_number_of, is_row_of, other_kinds, spoilings, wrong_things

SMALL = [
    [(1, (5,), 0, 10), (1, (5,), 1, 10), (1, (5, 0), 0, 9), (2, (4,), 8, 99999)],
    [],
    [(3, (0,), 3, 0), (3, (1039,), 0, 7)],
]
RATES = tuple(tuple(10 * a + b for b in range(10)) for a in range(10))


def is_plainly_net(thing):
    """The words of the document once more."""
    if type(thing) is not list or len(thing) > 24:
        return False
    for k, pieces in enumerate(thing):
        if type(pieces) is not list or len(pieces) > 150:
            return False
        for piece in pieces:
            if type(piece) is not tuple or len(piece) != 4:
                return False
            if not is_number_of(piece[0], k + 1, len(thing)) or not is_row_of(piece[1], 1, 24, 1039):
                return False
            if not is_number_of(piece[2], 0, 8) or not is_number_of(piece[3], 0, 99999):
                return False
        if pieces != sorted(pieces) or len({piece[:3] for piece in pieces}) < len(pieces):
            return False
    return True


class RightNets(unittest.TestCase):
    def right(self, net):
        self.assertIs(is_net(net), True, net)

    def test_ordinary(self):
        self.right(SMALL)

    def test_no_places(self):
        self.right([])

    def test_places_without_pieces(self):
        for many in (1, 2, 24):
            self.right([[] for each in range(many)])

    def test_twenty_four_places(self):
        self.right([[(24, (k,), 0, 0)] for k in range(24)])
        self.right([[(k + 1, (k,), 0, 0)] for k in range(24)])

    def test_a_hundred_and_fifty_pieces(self):
        self.right([[(1, (k,), 0, 0) for k in range(150)]])
        self.right([[], [(2, (k,), 0, 150 - k) for k in range(150)]])

    def test_the_bounds_of_numbers(self):
        self.right([[(1, (0,), 0, 0), (1, (1039,), 8, 99999)]])
        self.right([[(1, (7,) * 24, 4, 4)]])
        self.right([[(1, (1, 2), 0, 0), (2, (1,), 0, 0)], [(2, (0,), 0, 0)]])

    def test_pieces_may_be_alike_in_two_of_end_signs_and_kind(self):
        self.right([[(1, (1,), 1, 5), (1, (1,), 2, 5), (1, (2,), 1, 5), (2, (1,), 1, 5)], []])

    def test_greater_costs_may_stand_ahead(self):
        self.right([[(1, (1,), 1, 9), (1, (1,), 2, 3), (1, (1, 0), 0, 1)]])

    def test_nets_by_chance(self):
        numbers = Numbers(2)
        for each in range(30):
            self.right(numbers.net(numbers.below(25), 12, 100000))


class WrongNets(unittest.TestCase):
    def wrong(self, thing):
        self.assertIs(is_net(thing), False, thing)

    def test_any_thing(self):
        for thing in wrong_things():
            if thing != [[]]:
                self.wrong(thing)

    def test_too_many_places(self):
        self.wrong([[] for each in range(25)])
        self.wrong([[(k + 1, (k,), 0, 0)] for k in range(25)])

    def test_too_many_pieces(self):
        self.wrong([[(1, (k,), 0, 0) for k in range(151)]])
        self.wrong([[], [(2, (k,), 0, 0) for k in range(151)]])

    def test_ends_beyond_the_bounds(self):
        self.wrong([[(0, (1,), 0, 0)], []])
        self.wrong([[(3, (1,), 0, 0)], []])
        self.wrong([[], [(1, (1,), 0, 0)]])
        self.wrong([[], [(0, (1,), 0, 0)]])
        self.wrong([[], [(3, (1,), 0, 0)]])

    def test_numbers_one_beyond_the_bounds(self):
        for piece in (
            (1, (1040,), 0, 0), (1, (-1,), 0, 0), (1, (0, 1040), 0, 0), (1, (1,), 9, 0), (1, (1,), -1, 0),
            (1, (1,), 0, 100000), (1, (1,), 0, -1), (1, (), 0, 0), (1, (1,) * 25, 0, 0),
        ):
            self.wrong([[piece]])

    def test_out_of_order(self):
        self.wrong([[(2, (1,), 0, 0), (1, (1,), 0, 0)], []])
        self.wrong([[(1, (2,), 0, 0), (1, (1,), 0, 0)]])
        self.wrong([[(1, (1, 1), 0, 0), (1, (1,), 0, 0)]])
        self.wrong([[(1, (1,), 2, 0), (1, (1,), 1, 0)]])
        self.wrong([[(1, (1,), 0, 0), (1, (3,), 0, 0), (1, (2,), 0, 0)]])

    def test_twice(self):
        self.wrong([[(1, (1,), 0, 5), (1, (1,), 0, 5)]])
        self.wrong([[(1, (1,), 0, 5), (1, (1,), 0, 6)]])
        self.wrong([[(1, (1,), 0, 6), (1, (1,), 0, 5)]])

    def test_tuples_and_lists_the_other_way_about(self):
        self.wrong(())
        self.wrong(([(1, (1,), 0, 0)],))
        self.wrong([((1, (1,), 0, 0),)])
        self.wrong([()])
        self.wrong([[[1, (1,), 0, 0]]])
        self.wrong([[(1, [1], 0, 0)]])

    def test_truths_are_no_numbers(self):
        for truth in (True, False):
            self.wrong([[(truth, (1,), 0, 0)], []])
            self.wrong([[(1, (truth,), 0, 0)]])
            self.wrong([[(1, (1,), truth, 0)]])
            self.wrong([[(1, (1,), 0, truth)]])

    def test_one_part_put_otherwise_left_out_or_put_in(self):
        many = 0
        for spoilt in spoilings(SMALL):
            self.assertIs(is_net(spoilt), is_plainly_net(spoilt), spoilt)
            many += not is_net(spoilt)
        self.assertGreater(many, 200)

    def test_what_is_asked_is_not_changed(self):
        for thing in wrong_things() + [copy.deepcopy(SMALL)]:
            kept = copy.deepcopy(thing)
            is_net(thing)
            self.assertEqual(thing, kept)


class Rates(unittest.TestCase):
    def wrong(self, thing):
        self.assertIs(is_rates(thing), False, thing)

    def changed(self, a, b, rate):
        return RATES[:a] + (RATES[a][:b] + (rate,) + RATES[a][b + 1:],) + RATES[a + 1:]

    def test_right_ones(self):
        for rates in (RATES, ((0,) * 10,) * 10, ((999,) * 10,) * 10, self.changed(9, 9, 999), self.changed(0, 0, 0)):
            self.assertIs(is_rates(rates), True)

    def test_any_thing(self):
        for thing in wrong_things() + [[], ()]:
            self.wrong(thing)

    def test_numbers_one_beyond_the_bounds(self):
        for a, b in ((0, 0), (4, 7), (9, 9), (9, 0), (0, 9)):
            for rate in (-1, 1000, 10 ** 59):
                self.wrong(self.changed(a, b, rate))

    def test_one_row_of_another_kind(self):
        for a in range(10):
            for spoilt in other_kinds(RATES[a]):
                self.wrong(RATES[:a] + (spoilt,) + RATES[a + 1:])
            self.wrong(RATES[:a] + (RATES[a][1:],) + RATES[a + 1:])
            self.wrong(RATES[:a] + (RATES[a] + (1,),) + RATES[a + 1:])
            self.wrong(RATES[:a] + RATES[a + 1:])
            self.wrong(RATES[:a] + RATES[a:a + 1] + RATES[a:])

    def test_one_number_of_another_kind(self):
        for a in range(10):
            for b in range(10):
                for spoilt in other_kinds(RATES[a][b]):
                    self.wrong(self.changed(a, b, spoilt))

    def test_lists_are_no_tuples(self):
        self.wrong(list(RATES))
        self.wrong(tuple(map(list, RATES)))


if __name__ == "__main__":
    unittest.main()
