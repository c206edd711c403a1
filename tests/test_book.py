import copy
import unittest

from signbench.book import Book
from signbench.errors import Missing, NoWord, TooMany, Twice
from tests.things import Numbers, book_of, other_kinds, wrong_things

WORDS = [
    ((1, 2), (10,), 0, 500),
    ((1, 2), (10,), 1, 400),
    ((1, 2), (9, 9), 0, 300),
    ((1,), (11,), 2, 700),
    ((1, 2, 3), (12, 13), 3, 0),
    ((2, 3), (14,), 7, 9999),
    ((3,), (0,), 0, 1),
]


def many_words(many):
    return [((k % 40, k // 40), (k,), k % 8, k) for k in range(many)]


class RightWords(unittest.TestCase):
    def test_the_bounds(self):
        for word in (
            ((0,), (0,), 0, 0), ((39,), (999,), 7, 9999),
            ((1, 2, 3, 4, 5, 6), (1, 2, 3, 4), 3, 77), ((5,) * 6, (5,) * 4, 5, 5),
        ):
            book = Book()
            self.assertIsNone(book.put(word))
            self.assertEqual(book.words(), [word])

    def test_words_that_differ_in_sounds_signs_or_kind(self):
        words = [((1,), (2,), 3, 4), ((2,), (2,), 3, 4), ((1,), (1,), 3, 4), ((1,), (2,), 4, 4), ((1, 1), (2,), 3, 4)]
        self.assertEqual(book_of(*words).words(), sorted(words))


class WrongWords(unittest.TestCase):
    def wrong(self, thing):
        for book in (Book(), book_of(*WORDS), book_of(*many_words(60))):
            before = book.words()
            kept = copy.deepcopy(thing)
            with self.assertRaises(NoWord, msg=repr(thing)):
                book.put(thing)
            self.assertEqual(book.words(), before)
            self.assertEqual(thing, kept)

    def test_any_thing(self):
        for thing in wrong_things() + [[], ()]:
            self.wrong(thing)

    def test_one_part_of_another_kind(self):
        word = ((1, 2), (3,), 4, 5)
        for spoilt in other_kinds(word):
            self.wrong(spoilt)
        for at, part in enumerate(word):
            for spoilt in other_kinds(part):
                self.wrong(word[:at] + (spoilt,) + word[at + 1:])
        for at in (0, 1):
            for deep, number in enumerate(word[at]):
                for spoilt in other_kinds(number):
                    inner = word[at][:deep] + (spoilt,) + word[at][deep + 1:]
                    self.wrong(word[:at] + (inner,) + word[at + 1:])

    def test_numbers_beyond_the_bounds(self):
        for word in (
            ((40,), (3,), 4, 5), ((-1,), (3,), 4, 5), ((1, 40), (3,), 4, 5),
            ((1,), (1000,), 4, 5), ((1,), (-1,), 4, 5), ((1,), (1, 1000), 4, 5),
            ((1,), (3,), 8, 5), ((1,), (3,), -1, 5), ((1,), (3,), 4, 10000), ((1,), (3,), 4, -1),
        ):
            self.wrong(word)

    def test_lengths_beyond_the_bounds(self):
        for word in (
            ((), (3,), 4, 5), ((1,) * 7, (3,), 4, 5), ((1,), (), 4, 5), ((1,), (3,) * 5, 4, 5),
        ):
            self.wrong(word)

    def test_something_left_out_or_twice(self):
        word = ((1, 2), (3,), 4, 5)
        for at in range(4):
            self.wrong(word[:at] + word[at + 1:])
            self.wrong(word[:at + 1] + word[at:])
        self.wrong(word + (None,))
        self.wrong(word + word)


class PutAndTake(unittest.TestCase):
    def test_a_book_is_empty_first(self):
        self.assertEqual(Book().words(), [])

    def test_put_and_take_tell_none(self):
        book = Book()
        self.assertIsNone(book.put(((1,), (2,), 3, 4)))
        self.assertIsNone(book.take((1,), (2,), 3))
        self.assertEqual(book.words(), [])

    def test_twice_is_refused_whatever_the_cost(self):
        book = book_of(*WORDS)
        for word in WORDS:
            for cost in (word[3], 1234):
                with self.assertRaises(Twice):
                    book.put(word[:3] + (cost,))
        self.assertEqual(book.words(), sorted(WORDS))

    def test_sixty_words_and_one_more(self):
        book = book_of(*many_words(59))
        self.assertIsNone(book.put(many_words(60)[59]))
        self.assertEqual(book.words(), sorted(many_words(60)))
        with self.assertRaises(TooMany):
            book.put(many_words(61)[60])
        self.assertEqual(book.words(), sorted(many_words(60)))

    def test_twice_goes_ahead_of_too_many(self):
        book = book_of(*many_words(60))
        for word in many_words(60):
            with self.assertRaises(Twice):
                book.put(word[:3] + (9000,))
        self.assertEqual(book.words(), sorted(many_words(60)))

    def test_no_word_goes_ahead_of_both(self):
        book = book_of(*many_words(60))
        for thing in (many_words(1)[0][:3] + (10000,), many_words(61)[60][:3] + (True,), None):
            with self.assertRaises(NoWord):
                book.put(thing)
        self.assertEqual(book.words(), sorted(many_words(60)))

    def test_a_full_book_has_room_again(self):
        book = book_of(*many_words(60))
        book.take(*many_words(60)[7][:3])
        book.put(many_words(61)[60])
        self.assertEqual(book.words(), sorted(many_words(61)[:7] + many_words(61)[8:]))

    def test_taken_out_are_the_named_words_alone(self):
        for word in WORDS:
            book = book_of(*WORDS)
            book.take(*word[:3])
            self.assertEqual(book.words(), sorted(other for other in WORDS if other != word))

    def test_missing(self):
        book = book_of(*WORDS)
        for name in (((1, 2), (10,), 2), ((1, 2), (9,), 0), ((2, 1), (10,), 0), ((1,), (10,), 0)):
            with self.assertRaises(Missing):
                book.take(*name)
        self.assertEqual(book.words(), sorted(WORDS))
        with self.assertRaises(Missing):
            Book().take((1,), (2,), 3)

    def test_taken_out_twice(self):
        book = book_of(*WORDS)
        book.take((3,), (0,), 0)
        with self.assertRaises(Missing):
            book.take((3,), (0,), 0)

    def test_taken_out_and_put_in_at_another_cost(self):
        book = book_of(*WORDS)
        book.take((3,), (0,), 0)
        book.put(((3,), (0,), 0, 9))
        self.assertEqual(book.cost_of((3,), (0,), 0), 9)


class Told(unittest.TestCase):
    def test_words_are_sorted_however_they_came(self):
        self.assertEqual(book_of(*WORDS).words(), sorted(WORDS))
        self.assertEqual(book_of(*WORDS[::-1]).words(), sorted(WORDS))

    def test_costs(self):
        book = book_of(*WORDS)
        for sounds, signs, kind, cost in WORDS:
            self.assertEqual(book.cost_of(sounds, signs, kind), cost)
        for name in (((1, 2), (10,), 2), ((1, 2), (9,), 0), ((2, 1), (10,), 0)):
            self.assertIsNone(book.cost_of(*name))
        self.assertIsNone(Book().cost_of((1,), (2,), 3))

    def test_standing_in_a_list_of_sounds(self):
        book = book_of(*WORDS)
        sounds = [1, 2, 3, 1]
        self.assertEqual(book.standing(sounds, 0), [WORDS[3], WORDS[2], WORDS[0], WORDS[1], WORDS[4]])
        self.assertEqual(book.standing(sounds, 1), [WORDS[5]])
        self.assertEqual(book.standing(sounds, 2), [WORDS[6]])
        self.assertEqual(book.standing(sounds, 3), [WORDS[3]])
        self.assertEqual(book.standing(sounds, 4), [])
        self.assertEqual(book.standing([], 0), [])

    def test_standing_does_not_reach_beyond_the_sounds(self):
        self.assertEqual(book_of(*WORDS).standing([5, 1, 2], 1), [WORDS[3], WORDS[2], WORDS[0], WORDS[1]])
        self.assertEqual(book_of(*WORDS).standing([2], 0), [])

    def test_begun(self):
        book = book_of(*WORDS)
        self.assertEqual(book.begun(()), sorted(WORDS))
        self.assertEqual(book.begun((1,)), [WORDS[3], WORDS[2], WORDS[0], WORDS[1], WORDS[4]])
        self.assertEqual(book.begun((1, 2)), [WORDS[2], WORDS[0], WORDS[1], WORDS[4]])
        self.assertEqual(book.begun((1, 2, 3)), [WORDS[4]])
        self.assertEqual(book.begun((1, 2, 3, 4)), [])
        self.assertEqual(book.begun((1,) * 24), [])
        self.assertEqual(book.begun((9,)), [])
        self.assertEqual(Book().begun(()), [])

    def test_standing_and_begun_word_by_word(self):
        numbers = Numbers(3)
        for each in range(40):
            words = {}
            for other in range(60):
                word = (numbers.row(1, 6, 3), numbers.row(1, 4, 3), numbers.below(3), numbers.below(10000))
                words[word[:3]] = word
            words = list(words.values())
            book = book_of(*words)
            sounds = list(numbers.row(0, 24, 3))
            for place in range(len(sounds) + 1):
                told = [word for word in words if list(word[0]) == sounds[place:][:len(word[0])]]
                self.assertEqual(book.standing(sounds, place), sorted(told))
            for begun in (tuple(sounds), tuple(sounds[:2]), tuple(sounds[:5])):
                text = "".join(map(str, begun))
                told = [word for word in words if "".join(map(str, word[0])).startswith(text)]
                self.assertEqual(book.begun(begun), sorted(told))

    def test_what_is_told_is_the_askers_own(self):
        book = book_of(*WORDS)
        asks = [book.words, lambda: book.standing([1, 2, 3], 0), lambda: book.begun(()), lambda: book.begun((1,))]
        for ask in asks:
            first = ask()
            kept = list(first)
            self.assertIs(type(first), list)
            first.clear()
            self.assertEqual(ask(), kept)
        self.assertEqual(book.words(), sorted(WORDS))

    def test_what_was_told_is_not_changed_later(self):
        book = book_of(*WORDS)
        told = [book.words(), book.standing([1, 2], 0), book.begun(())]
        kept = copy.deepcopy(told)
        book.take((1, 2), (10,), 0)
        book.put(((1,), (99,), 0, 0))
        self.assertEqual(told, kept)

    def test_what_is_handed_in_is_not_changed(self):
        sounds = [1, 2, 3]
        told = book_of(*WORDS).standing(sounds, 0)
        self.assertEqual(sounds, [1, 2, 3])
        kept = list(told)
        sounds.clear()
        self.assertEqual(told, kept)


class Twins(unittest.TestCase):
    def test_a_twin_has_the_same_words(self):
        twin = book_of(*WORDS).twin()
        self.assertIsInstance(twin, Book)
        self.assertEqual(twin.words(), sorted(WORDS))
        self.assertEqual(Book().twin().words(), [])

    def test_book_and_twin_know_nothing_of_one_another(self):
        book = book_of(*WORDS)
        twin = book.twin()
        twin.put(((8,), (8,), 0, 8))
        twin.take((3,), (0,), 0)
        self.assertEqual(book.words(), sorted(WORDS))
        book.take((1,), (11,), 2)
        book.put(((7,), (7,), 0, 7))
        self.assertEqual(twin.words(), sorted(WORDS[:6] + [((8,), (8,), 0, 8)]))

    def test_a_full_twin_is_full(self):
        twin = book_of(*many_words(60)).twin()
        with self.assertRaises(TooMany):
            twin.put(many_words(61)[60])
        with self.assertRaises(Twice):
            twin.put(many_words(1)[0])

    def test_two_books_know_nothing_of_one_another(self):
        first, second = book_of(*WORDS), book_of(*WORDS)
        first.take((3,), (0,), 0)
        self.assertEqual(second.words(), sorted(WORDS))
        self.assertEqual(Book().words(), [])


if __name__ == "__main__":
    unittest.main()
