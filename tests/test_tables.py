import copy
import unittest

from signbench.keys import is_table
from tests.things import other_kinds, wrong_things


def rows(many):
    return [((k // 26, k % 26), (k % 40,), (k % 26,)) for k in range(many)]


class RightTables(unittest.TestCase):
    def right(self, table):
        self.assertIs(is_table(table), True, table)

    def test_no_rows(self):
        self.right([])

    def test_one_to_forty_rows(self):
        for many in (1, 2, 39, 40):
            self.right(rows(many))

    def test_one_to_four_keys(self):
        for many in range(1, 5):
            self.right([((7,) * many, (1,), ())])

    def test_no_to_three_sounds(self):
        for many in range(4):
            self.right([((7,), (5,) * many, ())])

    def test_left_keys_are_fewer_than_keys(self):
        for many in range(1, 5):
            for left in range(many):
                self.right([((7,) * many, (), (8,) * left)])

    def test_the_bounds_of_keys_and_sounds(self):
        self.right([((0, 25), (0, 39), (25,)), ((25, 0), (39, 0), (0,))])

    def test_keys_may_begin_other_keys(self):
        self.right([((1,), (), ()), ((1, 1), (), ()), ((1, 1, 1), (), ()), ((1, 2), (), ())])

    def test_rows_may_have_like_sounds_and_left_keys(self):
        self.right([((1, 2), (3,), (4,)), ((2, 1), (3,), (4,))])


class WrongTables(unittest.TestCase):
    def wrong(self, thing):
        self.assertIs(is_table(thing), False, thing)

    def test_any_thing(self):
        for thing in wrong_things():
            self.wrong(thing)

    def test_too_many_rows(self):
        self.wrong(rows(41))
        self.wrong(rows(600))

    def test_a_tuple_of_rows(self):
        self.wrong(())
        self.wrong((((1,), (2,), ()),))

    def test_rows_of_another_form(self):
        for row in ([(1,), (2,), ()], ((1,), (2,)), ((1,), (2,), (), ()), (), ((1,),), (1, 2, 3), None, "abc"):
            self.wrong([row])
            self.wrong([((9,), (), ()), row])

    def test_no_keys_and_too_many(self):
        self.wrong([((), (2,), ())])
        self.wrong([((1, 2, 3, 4, 5), (2,), ())])

    def test_too_many_sounds(self):
        self.wrong([((1,), (2, 2, 2, 2), ())])

    def test_left_keys_as_many_as_keys_or_more(self):
        for many in range(1, 5):
            self.wrong([((7,) * many, (), (8,) * many)])
            self.wrong([((7,) * many, (), (8,) * (many + 1))])

    def test_numbers_beyond_the_bounds(self):
        for bad in (-1, 26, 10 ** 59):
            self.wrong([((bad,), (), ())])
            self.wrong([((1, bad), (), ())])
            self.wrong([((1, 1), (), (bad,))])
        for bad in (-1, 40, 10 ** 59):
            self.wrong([((1,), (bad,), ())])
            self.wrong([((1,), (0, 0, bad), ())])

    def test_truths_are_no_numbers(self):
        for truth in (True, False):
            self.wrong([((truth,), (), ())])
            self.wrong([((1, 1), (truth,), (1,))])
            self.wrong([((1, 1), (1,), (truth,))])

    def test_lists_are_no_tuples(self):
        self.wrong([([1, 1], (1,), (1,))])
        self.wrong([((1, 1), [1], (1,))])
        self.wrong([((1, 1), (1,), [1])])
        self.wrong([((1, 1), (1,), [])])

    def test_one_part_of_another_kind(self):
        table = [((1, 2), (3,), (4,)), ((2, 1), (5, 6), ())]
        for at, row in enumerate(table):
            for spoilt in other_kinds(row):
                self.wrong(table[:at] + [spoilt] + table[at + 1:])
            for place, part in enumerate(row):
                for spoilt in other_kinds(part):
                    changed = row[:place] + (spoilt,) + row[place + 1:]
                    self.wrong(table[:at] + [changed] + table[at + 1:])
                for deep, number in enumerate(part):
                    for spoilt in other_kinds(number):
                        inner = part[:deep] + (spoilt,) + part[deep + 1:]
                        changed = row[:place] + (inner,) + row[place + 1:]
                        self.wrong(table[:at] + [changed] + table[at + 1:])

    def test_the_same_keys_twice(self):
        self.wrong([((1, 2), (3,), ()), ((1, 2), (3,), ())])
        self.wrong([((1, 2), (3,), ()), ((4,), (), ()), ((1, 2), (5,), (6,))])
        self.wrong(rows(39) + rows(1))

    def test_what_is_asked_is_not_changed(self):
        for thing in wrong_things() + [rows(3), rows(41)]:
            kept = copy.deepcopy(thing)
            is_table(thing)
            self.assertEqual(thing, kept)


if __name__ == "__main__":
    unittest.main()
