import copy
import itertools
import unittest

from signbench.keys import end_keys, fewest_keys, key_standings, press, read_keys
from tests.things import Numbers

TABLE = [((0,), (1,), ()), ((0, 1), (2,), ()), ((1,), (3,), ()), ((2, 2), (4,), (2,)), ((2, 0), (5, 1), ())]


def standings_one_by_one(table, sounds, last_key, most):
    """By all rows of at most so many keys, each pressed from the beginning: the fewest for each standing."""
    fewest = {}
    for many in range(most + 1):
        for keys in itertools.product(range(last_key + 1), repeat=many):
            told, waiting, lossless = [], (), True
            for key in keys:
                made, lost, waiting = press(table, waiting, key)
                told += made
                lossless = lossless and not lost
            if lossless and told == sounds[:len(told)]:
                fewest.setdefault((len(told), waiting), many)
    return sorted((place, waiting, many) for (place, waiting), many in fewest.items())


def fewest_one_by_one(table, sounds, last_key, most):
    for many in range(most + 1):
        for keys in itertools.product(range(last_key + 1), repeat=many):
            if read_keys(table, list(keys)) == (sounds, []):
                return list(keys)
    return None


def small_cases():
    numbers = Numbers(23)
    for at in range(150):
        table = numbers.table(1 + at % 7, 2, 1)
        for each in range(3):
            yield table, list(numbers.row(0, 4, 2))


class Standings(unittest.TestCase):
    def test_no_sounds(self):
        self.assertEqual(key_standings([], []), [(0, (), 0)])
        self.assertEqual(key_standings(TABLE, []), [(0, (), 0), (0, (0,), 1), (0, (2,), 1)])

    def test_no_rows(self):
        self.assertEqual(key_standings([], [1, 2, 3]), [(0, (), 0)])

    def test_a_way_by_hand(self):
        self.assertEqual(key_standings(TABLE, [1, 3]), [
            (0, (), 0), (0, (0,), 1), (0, (2,), 1),
            # Key 0 tells its sound only as the next key comes, so nowhere (1, ()).
            (1, (0,), 2), (1, (2,), 2),
        ])

    def test_sounds_that_come_together(self):
        self.assertEqual(key_standings(TABLE, [4, 5, 1]), [
            (0, (), 0), (0, (0,), 1), (0, (2,), 1), (1, (2,), 2),
            (3, (), 3), (3, (0,), 4), (3, (2,), 4),
        ])

    def test_sounds_beyond_the_list_are_no_way(self):
        self.assertEqual(key_standings(TABLE, [5]), [(0, (), 0), (0, (0,), 1), (0, (2,), 1)])

    def test_rows_without_sounds_lead_on(self):
        self.assertEqual(key_standings([((7, 7, 7), (), ())], [1]), [(0, (), 0), (0, (7,), 1), (0, (7, 7), 2)])

    def test_left_keys_may_be_a_shorter_way(self):
        table = [((4,), (), ()), ((5, 5), (), (6,)), ((6, 1), (2,), ()), ((6, 2), (2,), (6,))]
        self.assertEqual(key_standings(table, [2, 2]), [
            (0, (), 0), (0, (5,), 1), (0, (6,), 1),
            (1, (), 2), (1, (5,), 3), (1, (6,), 2),
            (2, (), 3), (2, (5,), 4), (2, (6,), 3),
        ])

    def test_all_rows_of_keys_one_by_one(self):
        for table, sounds in small_cases():
            told = key_standings(table, sounds)
            near = [standing for standing in told if standing[2] <= 5]
            self.assertEqual(near, standings_one_by_one(table, sounds, 2, 5), (table, sounds))

    def test_each_press_leads_to_a_standing_not_nearer_than_told(self):
        numbers = Numbers(31)
        for each in range(6):
            table, sounds = numbers.table(40, 5, 2), list(numbers.row(24, 24, 3))
            told = key_standings(table, sounds)
            self.assertEqual(told, sorted(told))
            fewest = {(place, waiting): many for place, waiting, many in told}
            self.assertEqual(len(fewest), len(told))
            reached = {(0, ()): 0}
            for (place, waiting), many in fewest.items():
                for key in range(26):
                    made, lost, then = press(table, waiting, key)
                    if not lost and made == sounds[place:place + len(made)]:
                        at = (place + len(made), then)
                        self.assertLessEqual(fewest[at], many + 1)
                        reached[at] = min(reached.get(at, many + 1), many + 1)
            self.assertEqual(reached, fewest)

    def test_twenty_four_sounds_with_a_full_table(self):
        table = [((k % 26, k // 26, k % 7, k % 5), (1,), ()) for k in range(40)]
        told = key_standings(table, [1] * 24)
        self.assertEqual(told[0], (0, (), 0))
        self.assertIn((24, (), 96), told)


class FewestKeys(unittest.TestCase):
    def test_no_sounds_need_no_keys(self):
        self.assertEqual(fewest_keys([], []), [])
        self.assertEqual(fewest_keys(TABLE, []), [])
        self.assertEqual(fewest_keys([((1,), (), ())], []), [])

    def test_none_where_there_are_none(self):
        self.assertIsNone(fewest_keys([], [1]))
        self.assertIsNone(fewest_keys(TABLE, [9]))
        self.assertIsNone(fewest_keys(TABLE, [5]))
        self.assertIsNone(fewest_keys(TABLE, [1, 3]))
        self.assertIsNone(fewest_keys([((2, 2), (4,), (2,))], [4, 4]))

    def test_waiting_keys_are_ended(self):
        self.assertEqual(fewest_keys(TABLE, [1]), [0])
        self.assertEqual(fewest_keys(TABLE, [2]), [0, 1])
        self.assertEqual(fewest_keys(TABLE, [1, 1]), [0, 0])

    def test_left_keys_are_used(self):
        self.assertEqual(fewest_keys(TABLE, [4, 4, 5, 1]), [2, 2, 2, 0])

    def test_longer_rows_may_spare_keys(self):
        table = [((3,), (1,), ()), ((9, 9), (1, 1, 1), ())]
        self.assertEqual(fewest_keys(table, [1, 1]), [3, 3])
        self.assertEqual(fewest_keys(table, [1, 1, 1]), [9, 9])
        self.assertEqual(fewest_keys(table, [1, 1, 1, 1]), [3, 9, 9])

    def test_of_several_the_first_as_lists_go(self):
        self.assertEqual(fewest_keys([((5,), (1,), ()), ((3,), (1,), ())], [1, 1]), [3, 3])
        table = [((9, 9), (1, 2), ()), ((8,), (1,), ()), ((4,), (2,), ()), ((9, 3), (1, 2), ())]
        self.assertEqual(fewest_keys(table, [1, 2]), [8, 4])
        self.assertEqual(fewest_keys(table, [1, 2, 1, 2]), [8, 4, 8, 4])
        self.assertEqual(fewest_keys(table[:1] + table[3:], [1, 2]), [9, 3])

    def test_the_first_also_where_one_of_them_waits_at_the_end(self):
        table = [((1,), (7,), ()), ((1, 1), (8,), ()), ((2,), (7,), ())]
        self.assertEqual(fewest_keys(table, [7]), [1])
        self.assertEqual(fewest_keys(table, [7, 7]), [1, 2])
        self.assertEqual(fewest_keys(table[::-1], [7, 7, 7]), [1, 2, 1])

    def test_more_than_sixty_keys(self):
        table = [((k, 25 - k, 0, 1), (k,), ()) for k in range(26)]
        sounds = list(range(24))
        keys = fewest_keys(table, sounds)
        self.assertEqual(len(keys), 96)
        self.assertEqual(read_keys(table, keys), (sounds, []))
        self.assertEqual(keys, [key for k in range(24) for key in (k, 25 - k, 0, 1)])

    def test_all_rows_of_keys_one_by_one(self):
        for table, sounds in small_cases():
            told = fewest_keys(table, sounds)
            if told is not None and len(told) > 5:
                self.assertEqual(read_keys(table, told), (sounds, []))
                told = None
            self.assertEqual(told, fewest_one_by_one(table, sounds, 2, 5), (table, sounds))

    def test_as_many_as_the_nearest_end(self):
        numbers = Numbers(41)
        for each in range(20):
            table, sounds = numbers.table(40, 4, 2), list(numbers.row(24, 24, 3))
            ends = [
                many for place, waiting, many in key_standings(table, sounds)
                if end_keys(table, waiting) == (sounds[place:], [])
            ]
            keys = fewest_keys(table, sounds)
            self.assertEqual(min(ends, default=None), None if keys is None else len(keys))
            if keys is not None:
                self.assertEqual(read_keys(table, keys), (sounds, []))


class HandedInAndTold(unittest.TestCase):
    def test_nothing_that_is_handed_in_is_changed(self):
        for call in (key_standings, fewest_keys):
            table, sounds = copy.deepcopy(TABLE), [4, 5, 1, 2]
            call(table, sounds)
            self.assertEqual((table, sounds), (TABLE, [4, 5, 1, 2]))

    def test_what_is_told_is_the_askers_own(self):
        for call in (key_standings, fewest_keys):
            table, sounds = copy.deepcopy(TABLE), [4, 5, 1, 2]
            first = call(table, sounds)
            kept = list(first)
            first.clear()
            self.assertEqual(call(table, sounds), kept)
            second = call(table, sounds)
            table.clear()
            sounds.clear()
            self.assertEqual(second, kept)

    def test_the_kinds_of_what_is_told(self):
        told = key_standings(TABLE, [4, 5, 1])
        self.assertIs(type(told), list)
        for place, waiting, many in told:
            self.assertEqual((type(place), type(waiting), type(many)), (int, tuple, int))
        self.assertIs(type(fewest_keys(TABLE, [1])), list)


if __name__ == "__main__":
    unittest.main()
