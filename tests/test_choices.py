import copy
import unittest

from signbench.book import Book
from signbench.choices import choices, guesses, pages, picked, read_back
from signbench.errors import BenchError, NoChoice
from signbench.learning import is_commit, learnt, made_words
from tests.test_cuttings import FREE, all_cuttings, plain_cost, rates_of
from tests.things import Numbers, at_once, book_of, check_own

# A commit that makes the word ((1, 2), (5, 6), 4, 1000).
MADE = ((1, 2), ((1, (5,), 0, 0), (2, (6,), 4, 0)), True)
WORDS = (((1, 2), (10,), 0, 500), ((1, 2), (11,), 0, 300), ((1, 2), (9, 9), 0, 700), ((1,), (12,), 0, 0))
PLAIN = (1001, 1002)


def single(sounds, signs):
    """A commit of one piece."""
    return (sounds, ((len(sounds), signs, 0, 0),), False)


def all_words(book, commits):
    """The words of the book, and the made ones that the book hasn't."""
    names = [word[:3] for word in book.words()]
    return book.words() + [word for word in made_words(commits) if word[:3] not in names]


def books_and_commits(many, seed):
    numbers = Numbers(seed)
    for each in range(many):
        commits = [numbers.commit(5, 2, 4, 9) for other in range(numbers.below(30))]
        commits += [single(row, tuple(1000 + sound for sound in row)) for row in (numbers.row(1, 2, 2),)] * (each % 3)
        yield numbers, numbers.book(numbers.below(40), 2, 4), commits


class Choices(unittest.TestCase):
    def told(self, words, commits, signs, sounds=(1, 2)):
        self.assertEqual(choices(book_of(*words), commits, sounds), signs)

    def test_plain_ones_alone(self):
        self.told((), [], [PLAIN])
        self.told((), [], [(1000, 1039)], (0, 39))
        self.told((), [], [(1007,) * 24], (7,) * 24)
        self.told(WORDS, [], [(1003,)], (3,))

    def test_by_costs_then_the_plain_ones(self):
        self.told(WORDS, [], [(11,), (10,), (9, 9), PLAIN])

    def test_words_of_longer_or_shorter_sounds_are_none(self):
        self.told(WORDS, [], [(12,), (1001,)], (1,))
        self.told(WORDS, [], [(1001, 1002, 1003)], (1, 2, 3))
        self.told(WORDS, [], [(1002,)], (2,))

    def test_like_costs_as_tuples_go(self):
        words = [((1, 2), signs, 0, 50) for signs in ((3,), (2, 9), (2,), (2, 8), (1, 1, 1, 1))]
        self.told(words, [], [(1, 1, 1, 1), (2,), (2, 8), (2, 9), (3,), PLAIN])

    def test_each_once_by_the_least_cost(self):
        words = [((1, 2), (10,), 0, 900), ((1, 2), (11,), 0, 500), ((1, 2), (10,), 3, 100), ((1, 2), (10,), 5, 700)]
        self.told(words, [], [(10,), (11,), PLAIN])
        self.told(words[:2] + words[3:], [], [(11,), (10,), PLAIN])

    def test_made_words(self):
        self.told((), [MADE], [(5, 6), PLAIN])
        self.told([((1, 2), (10,), 0, 999), ((1, 2), (11,), 0, 1001)], [MADE], [(10,), (5, 6), (11,), PLAIN])
        self.told([((1, 2), (4,), 0, 1000), ((1, 2), (6,), 0, 1000)], [MADE], [(4,), (5, 6), (6,), PLAIN])
        self.told((), [MADE[:2] + (False,)], [PLAIN])

    def test_a_word_that_the_book_and_a_commit_have_costs_what_the_book_says(self):
        dear = [((1, 2), (5, 6), 4, 3000), ((1, 2), (10,), 0, 2000)]
        self.told(dear, [MADE], [(10,), (5, 6), PLAIN])
        cheap = [((1, 2), (5, 6), 4, 10), ((1, 2), (10,), 0, 20)]
        self.told(cheap, [MADE], [(5, 6), (10,), PLAIN])
        # Of another kind the made word is one of its own.
        other = [((1, 2), (5, 6), 3, 3000), ((1, 2), (10,), 0, 2000)]
        self.told(other, [MADE], [(5, 6), (10,), PLAIN])

    def test_learnt_ones_first(self):
        self.told(WORDS, [single((1, 2), (9, 9))], [(9, 9), (11,), (10,), PLAIN])

    def test_the_greater_many_first(self):
        commits = [single((1, 2), (9, 9))] * 2 + [single((1, 2), (10,))]
        self.told(WORDS, commits, [(9, 9), (10,), (11,), PLAIN])
        commits = [single((1, 2), (9, 9))] * 11 + [single((1, 2), (10,))] * 12
        self.told(WORDS, commits, [(10,), (9, 9), (11,), PLAIN])

    def test_of_like_many_the_greater_last(self):
        commits = [single((1, 2), (9, 9)), single((1, 2), (10,))]
        self.told(WORDS, commits, [(10,), (9, 9), (11,), PLAIN])
        self.told(WORDS, commits[::-1], [(9, 9), (10,), (11,), PLAIN])

    def test_of_like_last_as_tuples_go(self):
        commit = ((1, 2, 1, 2, 1, 2), ((2, (11,), 0, 0), (4, (9, 9), 0, 0), (6, (10,), 0, 0)), False)
        self.assertTrue(is_commit(commit))
        self.told(WORDS, [commit], [(9, 9), (10,), (11,), PLAIN])

    def test_plain_ones_that_are_learnt(self):
        self.told(WORDS, [single((1, 2), PLAIN)], [PLAIN, (11,), (10,), (9, 9)])
        commits = [single((1, 2), PLAIN), single((1, 2), (10,))]
        self.told(WORDS, commits, [(10,), PLAIN, (11,), (9, 9)])
        self.told(WORDS, commits[::-1], [PLAIN, (10,), (11,), (9, 9)])

    def test_learnt_with_other_sounds_is_nothing(self):
        commits = [single((1,), (9, 9)), single((2, 1), (9, 9)), single((1, 2, 3), (9, 9)), single((1,), PLAIN)]
        self.told(WORDS, commits, [(11,), (10,), (9, 9), PLAIN])

    def test_learnt_signs_that_no_word_has_are_no_choice(self):
        self.told(WORDS, [single((1, 2), (77,))] * 3, [(11,), (10,), (9, 9), PLAIN])

    def plain_choices(self, book, commits, sounds):
        """The words of the document once more."""
        words = [word for word in all_words(book, commits) if word[0] == sounds]
        known = {told[1]: told for told in learnt(commits) if told[0] == sounds}
        plain = tuple(1000 + sound for sound in sounds)
        signs = {word[1] for word in words} | {plain}
        first = [each for each in signs if each in known]
        first.sort()
        first.sort(key=lambda each: known[each][3], reverse=True)
        first.sort(key=lambda each: known[each][2], reverse=True)
        others = sorted(signs - set(first) - {plain})
        others.sort(key=lambda each: min(word[3] for word in words if word[1] == each))
        return first + others + ([] if plain in first else [plain])

    def test_books_and_commits_by_chance(self):
        for numbers, book, commits in books_and_commits(100, 3):
            for sounds in ((0,), (1,), (0, 1), (1, 1), (0, 0, 1), numbers.row(1, 24, 2)):
                self.assertEqual(choices(book, commits, sounds), self.plain_choices(book, commits, sounds))

    def test_handed_in_stays_and_told_is_the_askers_own(self):
        book = book_of(*WORDS)
        check_own(self, lambda commits, sounds: choices(book, commits, sounds), [MADE, single((1, 2), (10,))], (1, 2))
        check_own(self, lambda commits, sounds: choices(book, commits, sounds), [], (1,))
        self.assertEqual(book.words(), sorted(WORDS))

    def test_the_kinds_of_what_is_told(self):
        told = choices(book_of(*WORDS), [MADE], (1, 2))
        self.assertIs(type(told), list)
        self.assertEqual({type(signs) for signs in told}, {tuple})


class Pages(unittest.TestCase):
    SIGNS = [(k,) for k in range(20)]

    def test_no_choices(self):
        for size in range(1, 10):
            self.assertEqual(pages([], size), [])

    def test_sizes(self):
        self.assertEqual(pages(self.SIGNS[:3], 1), [[(0,)], [(1,)], [(2,)]])
        self.assertEqual(pages(self.SIGNS[:3], 2), [[(0,), (1,)], [(2,)]])
        self.assertEqual(pages(self.SIGNS[:4], 2), [[(0,), (1,)], [(2,), (3,)]])
        self.assertEqual(pages(self.SIGNS[:3], 9), [[(0,), (1,), (2,)]])
        self.assertEqual(pages(self.SIGNS, 9), [self.SIGNS[:9], self.SIGNS[9:18], self.SIGNS[18:]])
        self.assertEqual(pages(self.SIGNS[:9], 9), [self.SIGNS[:9]])

    def test_all_sizes(self):
        for many in range(21):
            for size in range(1, 10):
                told = pages(self.SIGNS[:many], size)
                self.assertEqual(sum(told, []), self.SIGNS[:many])
                self.assertTrue(all(len(page) == size for page in told[:-1]))
                self.assertTrue(all(1 <= len(page) <= size for page in told))

    def test_handed_in_stays_and_told_is_the_askers_own(self):
        for size in (1, 3, 9):
            check_own(self, pages, list(self.SIGNS), size)
            check_own(self, pages, [], size)
            check_own(self, pages, [(5,)], size)


class Picked(unittest.TestCase):
    SIGNS = [(k, k + 1) for k in range(20)]

    def refused(self, signs, size, page, figure):
        kept = copy.deepcopy(signs)
        with self.assertRaises(NoChoice) as caught:
            picked(signs, size, page, figure)
        self.assertIsInstance(caught.exception, BenchError)
        self.assertEqual(signs, kept)

    def test_all_pages_and_figures(self):
        for many in (0, 1, 5, 9, 10, 20):
            signs = self.SIGNS[:many]
            for size in range(1, 10):
                known = pages(signs, size)
                for page in range(-3, 23):
                    for figure in range(-3, 13):
                        if 0 <= page < len(known) and 1 <= figure <= len(known[page]):
                            self.assertEqual(picked(signs, size, page, figure), known[page][figure - 1])
                        else:
                            self.refused(signs, size, page, figure)

    def test_figures_beyond_a_page_reach_no_other_page(self):
        self.refused(self.SIGNS, 5, 0, 6)
        self.refused(self.SIGNS, 5, 1, 0)
        self.refused(self.SIGNS, 5, 1, -1)
        self.refused(self.SIGNS, 5, -1, 6)

    def test_any_whole_numbers(self):
        for far in (10 ** 59, -10 ** 59):
            self.refused(self.SIGNS, 5, far, 1)
            self.refused(self.SIGNS, 5, 0, far)
            self.refused(self.SIGNS, 5, far, far)
            self.refused(self.SIGNS, 5, far, -far)
        # The two together would reach a choice again.
        self.refused(self.SIGNS, 5, 10 ** 58, 1 - 5 * 10 ** 58)

    def test_no_choices(self):
        self.refused([], 1, 0, 1)
        self.refused([], 9, 0, 0)

    def test_handed_in_stays(self):
        check_own(self, picked, list(self.SIGNS), 5, 2, 3)


class Guesses(unittest.TestCase):
    WORDS = (
        ((1,), (12,), 0, 900), ((1, 2), (10,), 0, 500), ((1, 2), (11,), 0, 300), ((1, 2, 3), (9, 9), 0, 700),
        ((2, 1), (13,), 0, 1),
    )

    def told(self, commits, begun, many, expected, words=WORDS):
        self.assertEqual(guesses(book_of(*words), commits, begun, many), expected)

    def test_by_costs(self):
        twelve, ten, eleven, nines, thirteen = self.WORDS
        self.told([], (), 20, [thirteen, eleven, ten, nines, twelve])
        self.told([], (1,), 20, [eleven, ten, nines, twelve])
        self.told([], (1, 2), 20, [eleven, ten, nines])
        self.told([], (1, 2, 3), 20, [nines])
        self.told([], (1, 2, 3, 4), 20, [])
        self.told([], (1,) * 24, 20, [])
        self.told([], (2,), 20, [thirteen])
        self.told([], (3,), 20, [])

    def test_as_many_as_asked(self):
        twelve, ten, eleven, nines, thirteen = self.WORDS
        self.told([], (1,), 0, [])
        self.told([], (1,), 1, [eleven])
        self.told([], (1,), 3, [eleven, ten, nines])
        words = [((1,), (k,), 0, 100 - k) for k in range(60)]
        self.told([], (), 20, [((1,), (k,), 0, 100 - k) for k in range(59, 39, -1)], words)
        self.told([], (), 0, [], words)

    def test_no_words(self):
        self.told([], (), 20, [], ())
        self.told([], (1,), 20, [], ())

    def test_the_greater_many_learnt_first(self):
        twelve, ten, eleven, nines, thirteen = self.WORDS
        self.told([single((1,), (12,))], (1,), 20, [twelve, eleven, ten, nines])
        commits = [single((1,), (12,))] * 11 + [single((1, 2, 3), (9, 9))] * 12
        self.told(commits, (1,), 20, [nines, twelve, eleven, ten])
        self.told(commits, (1,), 1, [nines])

    def test_learnt_are_sounds_and_signs_together(self):
        twelve, ten, eleven, nines, thirteen = self.WORDS
        self.told([single((1, 2), (12,)), single((2,), (10,))], (1,), 20, [eleven, ten, nines, twelve])

    def test_the_last_commit_is_nothing_to_it(self):
        twelve, ten, eleven, nines, thirteen = self.WORDS
        self.told([single((1, 2), (11,)), single((1, 2), (10,))], (1, 2), 20, [eleven, ten, nines])

    def test_like_many_and_like_cost_as_tuples_go(self):
        words = [((1, 2), (1,), 0, 5), ((1,), (2,), 3, 5), ((1,), (2,), 1, 5), ((1,), (1, 1), 0, 5), ((0,), (9,), 7, 5)]
        self.told([], (), 20, sorted(words), words)

    def test_words_that_differ_in_kind_alone_are_both_told(self):
        words = [((1,), (2,), 3, 5), ((1,), (2,), 1, 6)]
        self.told([single((1,), (2,))], (1,), 20, words, words)

    def test_made_words(self):
        self.told([MADE], (1,), 20, [((1, 2), (5, 6), 4, 1000)], ())
        self.told([MADE], (), 20, [((1, 2), (5, 6), 4, 20)], [((1, 2), (5, 6), 4, 20)])
        self.told([MADE], (1, 2), 20, [((1, 2), (5, 6), 3, 20), ((1, 2), (5, 6), 4, 1000)], [((1, 2), (5, 6), 3, 20)])
        self.told([MADE], (2,), 20, [], ())

    def test_plain_signs_are_no_guess(self):
        self.told([single((1,), (1001,))], (1,), 20, [], ())

    def test_books_and_commits_by_chance(self):
        for numbers, book, commits in books_and_commits(100, 5):
            many = {told[:2]: told[2] for told in learnt(commits)}
            for begun in ((), (0,), (1,), (0, 1), (1, 1, 1)):
                words = sorted(word for word in all_words(book, commits) if word[0][:len(begun)] == begun)
                words.sort(key=lambda word: word[3])
                words.sort(key=lambda word: many.get(word[:2], 0), reverse=True)
                for asked in (0, 1, 7, 20):
                    self.assertEqual(guesses(book, commits, begun, asked), words[:asked])

    def test_handed_in_stays_and_told_is_the_askers_own(self):
        book = book_of(*self.WORDS)
        check_own(self, lambda commits, begun, many: guesses(book, commits, begun, many), [MADE], (1,), 20)
        check_own(self, lambda commits, begun, many: guesses(book, commits, begun, many), [], (), 0)
        self.assertEqual(book.words(), sorted(self.WORDS))


class ReadBack(unittest.TestCase):
    WORDS = (((1, 2), (10,), 0, 500), ((3,), (10,), 1, 600), ((4, 5, 6), (10, 11), 2, 900), ((7,), (11,), 3, 300))

    def told(self, signs, expected, rates=FREE, commits=(), words=WORDS):
        self.assertEqual(read_back(book_of(*words), list(commits), rates, signs), expected)

    def test_by_costs(self):
        self.told((10,), [1, 2])
        self.told((11,), [7])
        self.told((10, 11), [1, 2, 7])
        self.told((10, 10, 11, 11), [1, 2, 1, 2, 7, 7])
        self.told((11, 10), [7, 1, 2])

    def test_rates(self):
        self.told((10, 11), [4, 5, 6], rates_of({(0, 3): 200, (1, 3): 200}))
        # Both cost 900, and the nearer end comes first as lists go.
        self.told((10, 11), [3, 7], rates_of({(0, 3): 200}))
        self.told((10, 11), [3, 7], rates_of({(0, 3): 200, (9, 2): 200}))
        self.told((10,), [3], rates_of({(9, 0): 200}))
        self.told((10,), [3], rates_of({(0, 9): 200}))
        self.told((10,), [1, 2], rates_of({(9, 0): 200, (1, 9): 200}))

    def test_plain_signs(self):
        self.told((1000,), [0])
        self.told((1039, 1005), [39, 5])
        self.told((1001,) * 24, [1] * 24, words=())
        self.told((1003, 10, 1004), [3, 1, 2, 4])

    def test_plain_signs_are_of_kind_eight(self):
        net_rates = rates_of({(0, 8): 999, (8, 9): 1})
        self.told((10, 1004), [3, 4], net_rates)

    def test_what_can_not_be_read_back(self):
        self.told((12,), None)
        self.told((10, 12), None)
        self.told((12, 10), None)
        self.told((999,), None)
        self.told((0,), None, words=())
        self.told((10,), None, words=[((1,), (10, 11), 0, 5)])
        self.told((10, 11, 10), None, words=[((1,), (10, 11), 0, 5)])

    def test_twenty_four_sounds_and_more(self):
        words = [((1, 2, 3, 4, 5, 6), (10,), 0, 5), ((9,), (11,), 0, 5)]
        self.told((10,) * 4, [1, 2, 3, 4, 5, 6] * 4, words=words)
        self.told((10,) * 4 + (11,), None, words=words)
        self.told((10,) * 5, None, words=words)
        self.told((10,) * 24, None, words=words)
        self.told((11,) * 24, [9] * 24, words=words)
        self.told((11,) * 23 + (10,), None, words=words)

    def test_where_the_first_has_too_many_sounds_no_other_is_told(self):
        words = [((1, 2, 3, 4, 5, 6), (10,), 0, 5), ((9,), (10,), 0, 6)]
        self.told((10,) * 5, None, words=words)
        self.told((10,) * 4, [1, 2, 3, 4, 5, 6] * 4, words=words)

    def test_costs_are_lessened(self):
        self.told((10,), [3], commits=[single((3,), (10,))] * 3)
        # At twice they cost alike, and as lists go the sounds (1, 2) come first.
        self.told((10,), [1, 2], commits=[single((3,), (10,))] * 2)
        self.told((10,), [1, 2], commits=[single((3,), (11,))] * 10)
        self.told((10, 11), [4, 5, 6], commits=[single((4, 5, 6), (10, 11))] * 3)

    def test_lessened_for_ten_times_at_most_and_not_below_nought(self):
        words = [((1,), (10,), 0, 0), ((2,), (10,), 0, 500), ((3,), (10,), 0, 501)]
        self.told((10,), [1], commits=[single((2,), (10,))] * 60, words=words)
        self.told((10,), [2], commits=[single((2,), (10,))] * 10, words=words[1:])
        self.told((10,), [2], commits=[single((2,), (10,)), single((3,), (10,))] * 30, words=words[1:])
        words = [((1,), (10,), 0, 20), ((2,), (10,), 0, 40)]
        self.told((10,), [1], commits=[single((1,), (10,)), single((2,), (10,))], words=words)

    def test_made_words(self):
        self.told((5, 6), [1, 2], commits=[MADE], words=())
        self.told((5, 6), None, commits=[MADE[:2] + (False,)], words=())
        self.told((5,), None, commits=[MADE], words=())
        # The book's cost goes for a made word that it has.
        dear = [((1, 2), (5, 6), 4, 5000), ((8,), (5,), 0, 1500), ((9,), (6,), 0, 1500)]
        self.told((5, 6), [8, 9], commits=[MADE], words=dear)
        self.told((5, 6), [1, 2], commits=[MADE], words=dear[1:])

    def test_like_costs_as_lists_go(self):
        words = [((2,), (10,), 0, 5), ((1, 9), (10,), 5, 5), ((1,), (10, 10), 0, 10)]
        self.told((10, 10), [1, 9, 1, 9], words=words)
        self.told((10,), [1, 9], words=words)

    def plain_read(self, book, commits, rates, signs):
        """The words of the document once more, all cuttings one by one."""
        many = {told[:2]: told[2] for told in learnt(commits)}
        words = all_words(book, commits) + [((sound,), (1000 + sound,), 8, 2500) for sound in range(40)]
        net = []
        for begin in range(len(signs)):
            found = [word for word in words if word[1] == signs[begin:begin + len(word[1])]]
            net.append([
                (begin + len(word[1]), word[0], word[2], max(0, word[3] - 50 * min(10, many.get(word[:2], 0))))
                for word in found
            ])
        found = sorted((plain_cost(rates, cutting), cutting) for cutting in all_cuttings(net))
        sounds = [sound for piece in found[0][1] for sound in piece[1]] if found else None
        return None if sounds is None or len(sounds) > 24 else sounds

    def test_books_and_commits_by_chance(self):
        answers = []
        for numbers, book, commits in books_and_commits(150, 7):
            rates = numbers.rates((1, 2, 1000)[numbers.below(3)])
            signs = tuple(
                1000 + numbers.below(40) if numbers.below(4) == 0 else numbers.below(4)
                for each in range(1 + numbers.below(5))
            )
            told = read_back(book, commits, rates, signs)
            self.assertEqual(told, self.plain_read(book, commits, rates, signs))
            answers.append(told is None)
        self.assertGreater(answers.count(True), 10)
        self.assertGreater(answers.count(False), 50)

    def test_far_too_many_cuttings(self):
        words = [((k % 40,) * (1 + k // 40), (1,) * (1 + k % 4), k % 8, 1000 + k) for k in range(60)]
        with at_once(self):
            told = read_back(book_of(*words), [], FREE, (1,) * 24)
        # Four signs a word, by the cheapest such word, six times.
        self.assertEqual(told, [3] * 6)

    def test_handed_in_stays_and_told_is_the_askers_own(self):
        book = book_of(*self.WORDS)
        check_own(self, lambda commits, signs: read_back(book, commits, FREE, signs), [MADE], (5, 6, 10, 1001))
        check_own(self, lambda commits, signs: read_back(book, commits, FREE, signs), [], (12,))
        self.assertEqual(book.words(), sorted(self.WORDS))
        self.assertIs(type(read_back(book, [], FREE, (10,))), list)
        self.assertIsNone(read_back(Book(), [], FREE, (10,)))


if __name__ == "__main__":
    unittest.main()
