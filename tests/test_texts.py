import re
import unittest

from signbench.book import is_word
from signbench.errors import BenchError, NoText
from signbench.texts import (
    read_keys_text, read_wish, read_word, show_cutting, show_keys, show_numbers, show_wish, show_word,
)
from tests.test_wishes import all_wishes, is_plainly_wish
from tests.things import Numbers, check_own, same_kinds, wrong_things

N = "(?:0|[1-9][0-9]*)"
ROW = f"{N}(?:[.]{N})*"
LETTERS = "abcdefghijklmnopqrstuvwxyz"
OTHER_SIGNS = " -./:;,=|+_~A0z9"


def numbers_of(text):
    return tuple(map(int, text.split(".")))


def read_word_plainly(text):
    """The words of the document once more, by the form of a word."""
    form = re.fullmatch(f"({ROW})/({ROW})/({N})/({N})", text)
    if form is None:
        return None
    word = (numbers_of(form[1]), numbers_of(form[2]), int(form[3]), int(form[4]))
    return word if is_word(word) else None


def read_wish_plainly(n, text):
    """The words of the document once more, by the forms of wishes."""
    form = re.fullmatch(f"(border|joined):({N})|(span):({N}):({N})|(held):({N}):({N}):({ROW})", text)
    if form is None:
        return None
    parts = [part for part in form.groups() if part is not None]
    wish = (parts[0],) + tuple(map(int, parts[1:3])) + tuple(map(numbers_of, parts[3:]))
    return wish if is_plainly_wish(n, wish) else None


def read_keys_plainly(text):
    return [] if text == "-" else [ord(sign) - 97 for sign in text] if re.fullmatch("[a-z]{1,60}", text) else None


def spoilt_texts(text):
    """The text with a sign left out, twice, put otherwise or put in."""
    for at in range(len(text) + 1):
        yield text[:at]
        yield text[at:]
        yield text[:at] + text[at + 1:]
        yield text[:at] + text[at:at + 1] + text[at:]
        for sign in OTHER_SIGNS:
            yield text[:at] + sign + text[at:]
            yield text[:at] + sign + text[at + 1:]


class TextsTest(unittest.TestCase):
    def refused(self, call, *handed):
        with self.assertRaises(NoText) as caught:
            call(*handed)
        self.assertIsInstance(caught.exception, BenchError)

    def no_texts(self):
        return [thing for thing in wrong_things() + [[], (), ["-"], ("-",), b"-", ["a"]] if not isinstance(thing, str)]


class Shows(unittest.TestCase):
    def test_numbers(self):
        for row, text in (
            ((), "-"), ([], "-"), ((0,), "0"), ([0], "0"), ((1, 20, 300), "1.20.300"), ([1039, 0], "1039.0"),
        ):
            self.assertEqual(show_numbers(row), text)

    def test_keys(self):
        for row, text in (
            ((), "-"), ([], "-"), ((0,), "a"), ([25], "z"), ((13, 0), "na"), (list(range(26)), LETTERS),
        ):
            self.assertEqual(show_keys(row), text)

    def test_words(self):
        self.assertEqual(show_word(((1, 2), (10,), 0, 500)), "1.2/10/0/500")
        self.assertEqual(show_word(((39,) * 6, (999, 0, 1, 2), 7, 9999)), "39.39.39.39.39.39/999.0.1.2/7/9999")
        self.assertEqual(show_word(((0,), (0,), 0, 0)), "0/0/0/0")

    def test_cuttings(self):
        self.assertEqual(show_cutting([]), "-")
        self.assertEqual(show_cutting([(1, (5,), 0, 10)]), "1:5:0:10")
        self.assertEqual(show_cutting([(1, (5,), 0, 10), (3, (1001, 1002), 8, 4000)]), "1:5:0:10 3:1001.1002:8:4000")

    def test_wishes(self):
        for wish, text in (
            (("border", 3), "border:3"), (("joined", 3), "joined:3"), (("span", 0, 2), "span:0:2"),
            (("held", 0, 2, (17, 4)), "held:0:2:17.4"), (("held", 11, 24, (1039,)), "held:11:24:1039"),
        ):
            self.assertEqual(show_wish(wish), text)

    def test_handed_in_stays(self):
        for call, handed in (
            (show_numbers, [1, 2]), (show_keys, [1, 2]), (show_cutting, [(1, (5,), 0, 10)]), (show_numbers, []),
            (show_keys, []), (show_cutting, []),
        ):
            check_own(self, call, handed)


class ReadsKeys(TextsTest):
    def test_right_ones(self):
        for text, keys in (("-", []), ("a", [0]), ("z", [25]), ("na", [13, 0]), (LETTERS, list(range(26)))):
            self.assertTrue(same_kinds(read_keys_text(text), keys))

    def test_sixty_and_one_more(self):
        self.assertEqual(read_keys_text("b" * 60), [1] * 60)
        self.refused(read_keys_text, "b" * 61)
        self.refused(read_keys_text, "b" * 20000)

    def test_others(self):
        for text in ("", " ", "A", "aB", "--", "-a", "a-", "a b", " a", "a ", "a.b", "0", "a1", "\u00e4", "a\n"):
            self.refused(read_keys_text, text)
        for thing in self.no_texts():
            self.refused(read_keys_text, thing)

    def test_each_sign(self):
        for code in range(32, 127):
            for text in (chr(code), "ab" + chr(code), chr(code) + "ab"):
                if read_keys_plainly(text) is None:
                    self.refused(read_keys_text, text)
                else:
                    self.assertEqual(read_keys_text(text), read_keys_plainly(text))

    def test_what_was_shown(self):
        numbers = Numbers(301)
        for each in range(200):
            keys = list(numbers.row(0, 60, 26))
            self.assertEqual(read_keys_text(show_keys(keys)), keys)
            self.assertEqual(read_keys_text(show_keys(tuple(keys))), keys)

    def test_what_is_told_is_the_askers_own(self):
        for text in ("-", "nab"):
            check_own(self, read_keys_text, text)


class ReadsWords(TextsTest):
    def test_right_ones(self):
        for text, word in (
            ("1.2/10/0/500", ((1, 2), (10,), 0, 500)), ("0/0/0/0", ((0,), (0,), 0, 0)),
            ("39.39.39.39.39.39/999.0.1.2/7/9999", ((39,) * 6, (999, 0, 1, 2), 7, 9999)),
        ):
            self.assertTrue(same_kinds(read_word(text), word))

    def test_no_words(self):
        for text in (
            "", "-", "/", "///", "1/5/0", "1/5/0/10/3", "1/5//10", "/5/0/10", "1//0/10", "-/5/0/10", "1/-/0/10",
            "40/5/0/10", "1/1000/0/10", "1/5/8/10", "1/5/0/10000", "0.0.0.0.0.0.0/5/0/10", "1/5.5.5.5.5/0/10",
            "1/5/0/010", "01/5/0/10", "1/05/0/10", "1/5/00/10", "1/5/-1/10", "+1/5/0/10", "1/5/0/1_0", " 1/5/0/10",
            "1/5/0/10 ", "1 /5/0/10", "1,2/5/0/10", "1..2/5/0/10", "1./5/0/10", ".1/5/0/10", "1/5/0/1.0", "1/5/0.1/10",
            "1/5/0/\u0661", "1/5/0/10\n", "1/5/0/" + "9" * 19000, "9" * 20000, "1.2:10:0:500",
        ):
            self.refused(read_word, text)
        for thing in self.no_texts():
            self.refused(read_word, thing)

    def test_spoilt_ones(self):
        for text in ("1.2/10/0/500", "0/0/0/0", "12/345.6/7/890"):
            for spoilt in spoilt_texts(text):
                word = read_word_plainly(spoilt)
                if word is None:
                    self.refused(read_word, spoilt)
                else:
                    self.assertTrue(same_kinds(read_word(spoilt), word), spoilt)

    def test_what_was_shown(self):
        numbers = Numbers(303)
        for each in range(200):
            word = (numbers.row(1, 6, 40), numbers.row(1, 4, 1000), numbers.below(8), numbers.below(10000))
            self.assertTrue(same_kinds(read_word(show_word(word)), word))


class ReadsWishes(TextsTest):
    def test_right_ones(self):
        for text, wish in (
            ("border:3", ("border", 3)), ("joined:3", ("joined", 3)), ("span:0:2", ("span", 0, 2)),
            ("held:0:2:17.4", ("held", 0, 2, (17, 4))), ("held:3:4:1039", ("held", 3, 4, (1039,))),
        ):
            self.assertTrue(same_kinds(read_wish(4, text), wish))

    def test_for_so_many_places(self):
        for n in range(25):
            for text in ("border:1", "border:3", "joined:23", "span:0:1", "span:23:24", "held:0:24:5", "held:1:2:5"):
                wish = read_wish_plainly(n, text)
                if wish is None:
                    self.refused(read_wish, n, text)
                else:
                    self.assertEqual(read_wish(n, text), wish)

    def test_no_wishes(self):
        for text in (
            "", "-", ":", "border", "border:", "border:0", "border:4", "border:-1", "border:03", "border:3:1",
            "border:3:", "Border:3", " border:3", "border: 3", "border:3 ", "border 3", "joined:4", "joined:", "span:0",
            "span:0:5", "span:2:2", "span:2:1", "span:0:2:1", "span:00:2", "span::2", "span:0:", "held:0:2",
            "held:0:2:", "held:0:2:-", "held:0:2:1040", "held:0:2:1:2", "held:0:2:01", "held:0:2:1..2", "held:0:2:1.",
            "held:0:2:" + ".".join(["1"] * 25), "wish:1", "border:" + "1" * 19000, "span:0:2.0", "border:1.0",
            "3:border", "border:3\n",
        ):
            self.refused(read_wish, 4, text)
        for thing in self.no_texts() + [("border", 3)]:
            self.refused(read_wish, 4, thing)

    def test_twenty_four_signs(self):
        text = "held:0:2:" + ".".join(["7"] * 24)
        self.assertEqual(read_wish(2, text), ("held", 0, 2, (7,) * 24))

    def test_spoilt_ones(self):
        for text in ("border:3", "joined:1", "span:0:2", "held:0:2:17.4", "span:10:12"):
            for n in (3, 4, 24):
                for spoilt in spoilt_texts(text):
                    wish = read_wish_plainly(n, spoilt)
                    if wish is None:
                        self.refused(read_wish, n, spoilt)
                    else:
                        self.assertTrue(same_kinds(read_wish(n, spoilt), wish), spoilt)

    def test_what_was_shown(self):
        for n in (1, 2, 5, 11):
            for wish in all_wishes(n):
                self.assertTrue(same_kinds(read_wish(n, show_wish(wish)), wish))


if __name__ == "__main__":
    unittest.main()
