import copy
import itertools
import unittest

from signbench.keys import end_keys, is_table, press, read_keys
from tests.things import Numbers

# n, na, ni; a doubled key tells a stop and is left once, as in the tables of kana.
SIMPLE = [
    ((13,), (30,), ()),
    ((13, 0), (1,), ()),
    ((13, 8), (2,), ()),
    ((10, 10), (31,), (10,)),
    ((10, 0), (3,), ()),
    ((0,), (4,), ()),
    ((18, 7, 8, 0), (5, 6, 7), ()),
    ((18, 7), (8,), ()),
    ((25,), (), ()),
]


def read_plainly(table, keys):
    """The words of the document once more, in another way: by a dict, from the longest keys down."""
    rows = {row[0]: row for row in table}
    rest, sounds, lost = list(keys), [], []
    while rest:
        for many in (4, 3, 2, 1, 0):
            row = rows.get(tuple(rest[:many])) if len(rest) >= many else None
            if row is not None:
                rest[:many] = row[2]
                sounds += row[1]
                break
        else:
            lost.append(rest.pop(0))
    return (sounds, lost)


def press_all(table, keys):
    """The keys pressed one by one, then ended."""
    sounds, lost, waiting = [], [], ()
    for key in keys:
        told, gone, waiting = press(table, waiting, key)
        sounds += told
        lost += gone
    told, gone = end_keys(table, waiting)
    return (sounds + told, lost + gone)


def beginnings(table):
    return {row[0][:many] for row in table for many in range(len(row[0]))} | {()}


def some_tables():
    numbers = Numbers(11)
    tables = [numbers.table(1 + at % 8, 1 + at % 3, 3) for at in range(120)]
    return tables + [numbers.table(40, 25, 39) for each in range(10)]


class ReadAtOnce(unittest.TestCase):
    def told(self, table, keys, sounds, lost):
        self.assertEqual(read_keys(table, keys), (sounds, lost))

    def test_no_keys(self):
        self.told(SIMPLE, [], [], [])
        self.told([], [], [], [])

    def test_without_rows_all_keys_are_lost(self):
        self.told([], [3, 1, 3], [], [3, 1, 3])

    def test_the_row_with_the_most_keys_is_taken(self):
        self.told(SIMPLE, [13, 0], [1], [])
        self.told(SIMPLE, [13, 13, 0, 13], [30, 1, 30], [])
        self.told(list(reversed(SIMPLE)), [13, 0], [1], [])

    def test_a_long_row_that_does_not_come_about(self):
        self.told(SIMPLE, [18, 7, 8, 0], [5, 6, 7], [])
        self.told(SIMPLE, [18, 7, 8, 13], [8, 30], [8])
        self.told(SIMPLE, [18, 7, 8], [8], [8])
        self.told(SIMPLE, [18, 0], [4], [18])

    def test_left_keys_are_read_again(self):
        self.told(SIMPLE, [10, 10, 0], [31, 3], [])
        self.told(SIMPLE, [10, 10, 10, 0], [31, 31, 3], [])
        self.told(SIMPLE, [10, 10], [31], [10])

    def test_several_left_keys_stand_in_their_order_ahead_of_the_rest(self):
        table = [((1, 2, 3, 4), (9,), (5, 6, 7)), ((5, 6), (8,), ()), ((7, 0), (6, 5), ())]
        self.told(table, [1, 2, 3, 4, 0], [9, 8, 6, 5], [])
        self.told(table, [1, 2, 3, 4, 1], [9, 8], [7, 1])

    def test_rows_without_sounds_swallow_their_keys(self):
        self.told(SIMPLE, [25, 0, 25], [4], [])

    def test_sounds_and_lost_keys_come_in_order(self):
        self.told(SIMPLE, [2, 13, 8, 1, 0, 2], [2, 4], [2, 1, 2])

    def test_sixty_keys(self):
        self.told(SIMPLE, [10] * 59 + [0], [31] * 58 + [3], [])
        self.told(SIMPLE, [18, 7, 8, 0] * 15, [5, 6, 7] * 15, [])
        self.told(SIMPLE, [1] * 60, [], [1] * 60)

    def test_as_the_document_says_it(self):
        numbers = Numbers(5)
        for table in some_tables():
            self.assertTrue(is_table(table))
            for each in range(20):
                keys = list(numbers.row(0, 60, 5))
                self.assertEqual(read_keys(table, keys), read_plainly(table, keys), (table, keys))


class Pressed(unittest.TestCase):
    def told(self, table, waiting, key, sounds, lost, then):
        self.assertEqual(press(table, waiting, key), (sounds, lost, then))

    def test_a_key_that_begins_a_row_waits(self):
        self.told(SIMPLE, (), 13, [], [], (13,))
        self.told(SIMPLE, (), 18, [], [], (18,))
        self.told(SIMPLE, (18,), 7, [], [], (18, 7))
        self.told(SIMPLE, (18, 7), 8, [], [], (18, 7, 8))

    def test_a_whole_row_that_begins_no_other_is_told_at_once(self):
        self.told(SIMPLE, (), 0, [4], [], ())
        self.told(SIMPLE, (13,), 0, [1], [], ())
        self.told(SIMPLE, (18, 7, 8), 0, [5, 6, 7], [], ())
        self.told(SIMPLE, (), 25, [], [], ())

    def test_a_key_that_begins_no_row_is_lost_at_once(self):
        self.told(SIMPLE, (), 1, [], [1], ())
        self.told([], (), 25, [], [25], ())

    def test_waiting_keys_are_read_where_no_longer_row_can_come(self):
        self.told(SIMPLE, (13,), 13, [30], [], (13,))
        self.told(SIMPLE, (13,), 1, [30], [1], ())
        self.told(SIMPLE, (18, 7, 8), 13, [8], [8], (13,))
        self.told(SIMPLE, (18,), 18, [], [18], (18,))

    def test_left_keys_wait_again(self):
        self.told(SIMPLE, (10,), 10, [31], [], (10,))

    def test_left_keys_that_make_a_row_are_read_on(self):
        table = [((1, 2), (9,), (3,)), ((3,), (8,), ())]
        self.told(table, (1,), 2, [9, 8], [], ())

    def test_left_keys_that_begin_no_row_are_lost(self):
        self.told([((1, 2), (9,), (3,))], (1,), 2, [9], [3], ())

    def test_ended(self):
        self.assertEqual(end_keys(SIMPLE, ()), ([], []))
        self.assertEqual(end_keys([], ()), ([], []))
        self.assertEqual(end_keys(SIMPLE, (13,)), ([30], []))
        self.assertEqual(end_keys(SIMPLE, (10,)), ([], [10]))
        self.assertEqual(end_keys(SIMPLE, (18, 7)), ([8], []))
        self.assertEqual(end_keys(SIMPLE, (18, 7, 8)), ([8], [8]))

    def test_what_waits_is_a_tuple_that_begins_a_longer_row(self):
        for table in some_tables():
            for waiting in sorted(beginnings(table)):
                for key in range(26):
                    then = press(table, waiting, key)[2]
                    self.assertIsInstance(then, tuple)
                    self.assertIn(then, beginnings(table))

    def test_nothing_is_read_while_a_longer_row_may_come(self):
        for table in some_tables():
            for waiting in sorted(beginnings(table) - {()}):
                self.assertEqual(press(table, waiting[:-1], waiting[-1]), ([], [], waiting))

    def test_one_by_one_makes_what_is_read_at_once(self):
        numbers = Numbers(7)
        for table in some_tables():
            for each in range(20):
                keys = list(numbers.row(0, 60, 5))
                self.assertEqual(press_all(table, keys), read_keys(table, keys), (table, keys))

    def test_one_by_one_makes_what_is_read_at_once_for_all_short_rows_of_keys(self):
        for table in some_tables()[:40]:
            for many in range(6):
                for keys in itertools.product(range(3), repeat=many):
                    self.assertEqual(press_all(table, keys), read_keys(table, list(keys)), (table, keys))


class HandedInAndTold(unittest.TestCase):
    def setUp(self):
        self.calls = [
            (read_keys, [copy.deepcopy(SIMPLE), [10, 10, 0, 1, 13]]),
            (press, [copy.deepcopy(SIMPLE), (18, 7, 8), 13]),
            (end_keys, [copy.deepcopy(SIMPLE), (18, 7, 8)]),
        ]

    def test_nothing_that_is_handed_in_is_changed(self):
        for call, handed in self.calls:
            kept = copy.deepcopy(handed)
            call(*handed)
            self.assertEqual(handed, kept)

    def test_the_kinds_of_what_is_told(self):
        for call, handed in self.calls:
            told = call(*handed)
            self.assertIs(type(told), tuple)
            self.assertIs(type(told[0]), list)
            self.assertIs(type(told[1]), list)
            self.assertIsNot(told[0], told[1])

    def test_what_is_told_is_the_askers_own(self):
        for call, handed in self.calls:
            first = call(*handed)
            kept = copy.deepcopy(first)
            first[0].append(99)
            first[1].clear()
            self.assertEqual(call(*handed), kept)

    def test_what_is_handed_in_may_be_changed_behind_the_call(self):
        for call, handed in self.calls:
            told = call(*handed)
            kept = copy.deepcopy(told)
            handed[0].clear()
            if isinstance(handed[1], list):
                handed[1].clear()
            self.assertEqual(told, kept)


if __name__ == "__main__":
    unittest.main()
