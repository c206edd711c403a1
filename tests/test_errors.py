import unittest

from signbench import errors

NAMES = (
    "NoWord Twice TooMany Missing NoPlace NoChoice NoMark Marked Barred TooLong NoStanding NoDeed Full "
    "NoNode NoText Nothing NoWish Fight NoCutting Waits NoTurn NoTable NoSaying"
).split()


class Errors(unittest.TestCase):
    def test_the_base_is_straight_under_value_error(self):
        self.assertEqual(errors.BenchError.__bases__, (ValueError,))

    def test_each_refusal_is_straight_under_the_base(self):
        for name in NAMES:
            with self.subTest(name=name):
                self.assertEqual(getattr(errors, name).__bases__, (errors.BenchError,))

    def test_there_are_no_other_refusals(self):
        found = [name for name, value in vars(errors).items() if isinstance(value, type)]
        self.assertEqual(sorted(found), sorted(NAMES + ["BenchError"]))

    def test_refusals_are_raised_and_taken_by_the_base(self):
        for name in NAMES:
            with self.subTest(name=name), self.assertRaises(errors.BenchError):
                raise getattr(errors, name)("words")

    def test_fight_has_the_value_other(self):
        wish = ("held", 0, 2, (17, 4))
        self.assertEqual(errors.Fight(wish).other, wish)
        self.assertIsInstance(str(errors.Fight(wish)), str)

    def test_two_fights_know_nothing_of_one_another(self):
        first, second = errors.Fight(("border", 1)), errors.Fight(("joined", 2))
        self.assertEqual((first.other, second.other), (("border", 1), ("joined", 2)))


if __name__ == "__main__":
    unittest.main()
