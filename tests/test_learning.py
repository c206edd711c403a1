import collections
import copy
import unittest

from signbench.book import Book
from signbench.cuttings import first_cuttings, how_many
from signbench.learning import is_commit, learnt, made_words, net_of
from signbench.nets import is_net
from signbench.wishes import fighting, thinned
from tests.things import (
    Numbers, at_once, book_of, check_own, is_number_of, is_row_of, other_kinds, spoilings, wrong_things,
)

COMMIT = ((1, 2, 3), ((1, (10,), 0, 500), (3, (11, 12), 4, 900)), True)


def is_plainly_commit(thing):
    """The words of the document once more."""
    if type(thing) is not tuple or len(thing) != 3 or type(thing[1]) is not tuple or type(thing[2]) is not bool:
        return False
    if not is_row_of(thing[0], 1, 24, 39):
        return False
    at = 0
    for piece in thing[1]:
        if type(piece) is not tuple or len(piece) != 4 or not is_number_of(piece[0], at + 1, len(thing[0])):
            return False
        if not is_row_of(piece[1], 1, 24, 1039) or not is_number_of(piece[2], 0, 8):
            return False
        if not is_number_of(piece[3], 0, 99999):
            return False
        at = piece[0]
    return at == len(thing[0])


def rows_of_commits(many, seed):
    numbers = Numbers(seed)
    for each in range(many):
        signs = (5, 1040)[numbers.below(2)]
        yield [numbers.commit(7, 2, signs, 9) for other in range(numbers.below(61))]


def single(sounds, signs, kind=0, cost=0, wished=False):
    """A commit of one piece."""
    return (sounds, ((len(sounds), signs, kind, cost),), wished)


class WhetherACommit(unittest.TestCase):
    def right(self, thing):
        self.assertIs(is_commit(thing), True, thing)

    def wrong(self, thing):
        self.assertIs(is_commit(thing), False, thing)

    def test_ordinary(self):
        self.right(COMMIT)
        self.right(COMMIT[:2] + (False,))

    def test_the_bounds(self):
        self.right(((0,), ((1, (0,), 0, 0),), False))
        self.right(((39,), ((1, (1039,), 8, 99999),), True))
        self.right(((39,) * 24, ((24, (1039,) * 24, 8, 99999),), True))
        self.right(((0,) * 24, tuple((k + 1, (k,), 0, 0) for k in range(24)), True))

    def test_commits_by_chance(self):
        for commits in rows_of_commits(20, 3):
            for commit in commits:
                self.right(commit)

    def test_any_thing(self):
        for thing in wrong_things() + [[], ()]:
            self.wrong(thing)

    def test_beyond_the_bounds(self):
        for piece in (
            (1, (1040,), 0, 0), (1, (-1,), 0, 0), (1, (), 0, 0), (1, (1,) * 25, 0, 0), (1, (1,), 9, 0),
            (1, (1,), -1, 0), (1, (1,), 0, 100000), (1, (1,), 0, -1), (2, (1,), 0, 0), (0, (1,), 0, 0),
        ):
            self.wrong(((1,), (piece,), True))
        for sounds in ((), (40,), (-1,), (0,) * 25):
            self.wrong((sounds, ((max(1, len(sounds)), (1,), 0, 0),), True))
            self.wrong((sounds, ((len(sounds), (1,), 0, 0),), True))
        self.wrong(((), (), True))

    def test_pieces_that_do_not_lead_from_the_first_sound_to_the_last(self):
        one, two, three = ((k, (5,), 0, 0) for k in (1, 2, 3))
        for cutting in ((one, two, three), (one, three), (two, three), (three,)):
            self.right(((1, 2, 3), cutting, True))
        for cutting in (
            (), (one,), (one, two), (two, one, three), (one, one, two, three), (one, three, three), (three, three),
            (one, two, (4, (5,), 0, 0)), (three, (4, (5,), 0, 0)), ((0, (5,), 0, 0), three),
        ):
            self.wrong(((1, 2, 3), cutting, True))

    def test_wished_is_a_truth(self):
        for wished in (0, 1, None, "True", (True,), [True], "", ()):
            self.wrong(COMMIT[:2] + (wished,))

    def test_truths_are_no_numbers(self):
        for truth in (True, False):
            self.wrong(((truth,), ((1, (1,), 0, 0),), True))
            self.wrong(((1,), ((truth, (1,), 0, 0),), True))
            self.wrong(((1,), ((1, (truth,), 0, 0),), True))
            self.wrong(((1,), ((1, (1,), truth, 0),), True))
            self.wrong(((1,), ((1, (1,), 0, truth),), True))

    def test_lists_are_no_tuples(self):
        sounds, cutting, wished = COMMIT
        self.wrong(list(COMMIT))
        self.wrong((list(sounds), cutting, wished))
        self.wrong((sounds, list(cutting), wished))
        self.wrong((sounds, tuple(map(list, cutting)), wished))
        self.wrong((sounds, (cutting[0], (3, [11, 12], 4, 900)), wished))

    def test_one_part_put_otherwise_left_out_or_put_in(self):
        for commit in (COMMIT, single((7,), (1000, 1039), 8, 99999)):
            many = 0
            for spoilt in spoilings(commit):
                self.assertIs(is_commit(spoilt), is_plainly_commit(spoilt), spoilt)
                many += not is_commit(spoilt)
            self.assertGreater(many, 50)
            for spoilt in other_kinds(commit):
                self.wrong(spoilt)

    def test_what_is_asked_is_not_changed(self):
        for thing in wrong_things() + [([1], [[1, [1], 0, 0]], True)]:
            kept = copy.deepcopy(thing)
            is_commit(thing)
            self.assertEqual(thing, kept)


class Learnt(unittest.TestCase):
    def test_no_commits(self):
        self.assertEqual(learnt([]), [])

    def test_by_hand(self):
        commits = [
            ((1, 2, 1, 2), ((2, (10,), 0, 5), (4, (10,), 1, 6)), False),
            COMMIT,
            ((1,), ((1, (10,), 8, 0),), True),
            ((1, 2), ((1, (10, 10), 0, 5), (2, (10,), 0, 5)), False),
        ]
        self.assertEqual(learnt(commits), [
            ((1,), (10,), 2, 3), ((1,), (10, 10), 1, 4), ((1, 2), (10,), 2, 1), ((2,), (10,), 1, 4),
            ((2, 3), (11, 12), 1, 2),
        ])

    def test_kinds_costs_and_wishes_are_nothing_to_it(self):
        commits = [single((1,), (2,), kind, 100 * kind, kind % 2 == 1) for kind in range(9)]
        self.assertEqual(learnt(commits), [((1,), (2,), 9, 9)])

    def test_the_last_commit_by_its_number_from_one(self):
        commits = [single((1,), (2,)), single((3,), (4,)), single((1,), (2,)), single((5,), (6,))]
        self.assertEqual(learnt(commits), [((1,), (2,), 2, 3), ((3,), (4,), 1, 2), ((5,), (6,), 1, 4)])

    def test_sixty_commits(self):
        commits = [single((k % 2,), (7,)) for k in range(60)]
        self.assertEqual(learnt(commits), [((0,), (7,), 30, 59), ((1,), (7,), 30, 60)])
        commits = [((0,) * 24, tuple((k + 1, (7,), 0, 0) for k in range(24)), True)] * 60
        self.assertEqual(learnt(commits), [((0,), (7,), 1440, 60)])

    def test_the_plain_count(self):
        for commits in rows_of_commits(60, 5):
            many, last = collections.Counter(), {}
            for number, (sounds, cutting, wished) in enumerate(commits):
                ends = [piece[0] for piece in cutting]
                for begin, piece in zip([0] + ends, cutting):
                    name = (tuple(sounds[at] for at in range(begin, piece[0])), piece[1])
                    many[name] += 1
                    last[name] = number + 1
            self.assertEqual(learnt(commits), sorted((*name, many[name], last[name]) for name in many))

    def test_handed_in_stays_and_told_is_the_askers_own(self):
        for commits in rows_of_commits(10, 7):
            check_own(self, learnt, commits)
        check_own(self, learnt, [])


class MadeWords(unittest.TestCase):
    def commit(self, pieces, signs=1, sounds=None, kind=3, wished=True):
        """A commit of so many pieces, each with so many signs."""
        sounds = pieces if sounds is None else sounds
        ends = list(range(1, pieces)) + [sounds]
        cutting = tuple((end, tuple(range(10 * end, 10 * end + signs)), kind, 77) for end in ends)
        commit = (tuple(range(sounds)), cutting, wished)
        self.assertTrue(is_commit(commit))
        return commit

    def test_no_commits(self):
        self.assertEqual(made_words([]), [])

    def test_by_hand(self):
        self.assertEqual(made_words([COMMIT]), [((1, 2, 3), (10, 11, 12), 4, 1000)])

    def test_one_to_five_pieces(self):
        self.assertEqual(made_words([self.commit(1)]), [])
        self.assertEqual(made_words([self.commit(2)]), [((0, 1), (10, 20), 3, 1000)])
        self.assertEqual(made_words([self.commit(3)]), [((0, 1, 2), (10, 20, 30), 3, 1000)])
        self.assertEqual(made_words([self.commit(4)]), [((0, 1, 2, 3), (10, 20, 30, 40), 3, 1000)])
        self.assertEqual(made_words([self.commit(5)]), [])

    def test_six_sounds_and_seven(self):
        for pieces in (2, 3, 4):
            told = made_words([self.commit(pieces, sounds=6)])
            self.assertEqual([word[0] for word in told], [(0, 1, 2, 3, 4, 5)])
            self.assertEqual(made_words([self.commit(pieces, sounds=7)]), [])

    def test_four_signs_and_five(self):
        self.assertEqual(made_words([self.commit(2, signs=2)]), [((0, 1), (10, 11, 20, 21), 3, 1000)])
        self.assertEqual(made_words([self.commit(2, signs=3)]), [])
        self.assertEqual(made_words([((1, 2), ((1, (5,), 0, 0), (2, (6,) * 3, 1, 0)), True)]),
                         [((1, 2), (5, 6, 6, 6), 1, 1000)])
        self.assertEqual(made_words([((1, 2), ((1, (5,), 0, 0), (2, (6,) * 4, 1, 0)), True)]), [])

    def test_signs_of_a_thousand_and_more(self):
        for sign, told in ((999, 1), (1000, 0), (1039, 0)):
            for at in (0, 1):
                signs = [(5,), (6,)]
                signs[at] = (sign,)
                commit = ((1, 2), ((1, signs[0], 0, 0), (2, signs[1], 0, 0)), True)
                self.assertEqual(len(made_words([commit])), told, commit)
            commit = ((1, 2), ((1, (5, sign), 0, 0), (2, (7,), 0, 0)), True)
            self.assertEqual(len(made_words([commit])), told, commit)

    def test_the_last_kind(self):
        for kind in range(8):
            self.assertEqual(made_words([self.commit(2, kind=kind)]), [((0, 1), (10, 20), kind, 1000)])
        self.assertEqual(made_words([self.commit(2, kind=8)]), [])
        first_eight = ((1, 2), ((1, (5,), 8, 0), (2, (6,), 7, 0)), True)
        self.assertEqual(made_words([first_eight]), [((1, 2), (5, 6), 7, 1000)])
        last_eight = ((1, 2), ((1, (5,), 7, 0), (2, (6,), 8, 0)), True)
        self.assertEqual(made_words([last_eight]), [])

    def test_not_wished(self):
        for pieces in (2, 3, 4):
            self.assertEqual(made_words([self.commit(pieces, wished=False)]), [])

    def test_sorted_and_each_once(self):
        commits = [self.commit(3), COMMIT, self.commit(2), self.commit(3), COMMIT, self.commit(2, kind=1)]
        self.assertEqual(made_words(commits), [
            ((0, 1), (10, 20), 1, 1000), ((0, 1), (10, 20), 3, 1000), ((0, 1, 2), (10, 20, 30), 3, 1000),
            ((1, 2, 3), (10, 11, 12), 4, 1000),
        ])

    def test_one_word_of_two_cuttings(self):
        one = ((1, 2), ((1, (5, 6), 0, 0), (2, (7,), 2, 0)), True)
        other = ((1, 2), ((1, (5,), 1, 9), (2, (6, 7), 2, 9)), True)
        self.assertEqual(made_words([one, other]), [((1, 2), (5, 6, 7), 2, 1000)])

    def test_sixty_commits(self):
        commits = [((1, 2), ((1, (k,), 0, 0), (2, (6,), 2, 0)), True) for k in range(60)]
        self.assertEqual(made_words(commits), [((1, 2), (k, 6), 2, 1000) for k in range(60)])

    def test_commits_by_chance(self):
        for commits in rows_of_commits(60, 11):
            told = set()
            for sounds, cutting, wished in commits:
                signs = sum((piece[1] for piece in cutting), ())
                bounds = [2 <= len(cutting) <= 4, len(sounds) <= 6, len(signs) <= 4, cutting[-1][2] < 8]
                if wished and all(bounds) and not [sign for sign in signs if sign >= 1000]:
                    told.add((sounds, signs, cutting[-1][2], 1000))
            self.assertEqual(made_words(commits), sorted(told))

    def test_they_are_words(self):
        for commits in rows_of_commits(60, 13):
            book = book_of(*made_words(commits))
            self.assertEqual(book.words(), made_words(commits))

    def test_handed_in_stays_and_told_is_the_askers_own(self):
        for commits in rows_of_commits(10, 17):
            check_own(self, made_words, commits)
        check_own(self, made_words, [])


class NetOf(unittest.TestCase):
    BOOK = (((1, 2), (10,), 0, 500), ((1,), (11,), 2, 700), ((2,), (12, 13), 7, 120), ((1, 2), (10,), 3, 20))

    def test_no_sounds(self):
        self.assertEqual(net_of(Book(), [], []), [])
        self.assertEqual(net_of(book_of(*self.BOOK), [COMMIT], []), [])

    def test_plain_pieces(self):
        self.assertEqual(net_of(Book(), [], [0, 39, 5]), [
            [(1, (1000,), 8, 2500), (2, (1000, 1039), 8, 4000), (3, (1000, 1039, 1005), 8, 5500)],
            [(2, (1039,), 8, 2500), (3, (1039, 1005), 8, 4000)],
            [(3, (1005,), 8, 2500)],
        ])

    def test_words_of_the_book(self):
        self.assertEqual(net_of(book_of(*self.BOOK), [], [1, 2, 1]), [
            [(1, (11,), 2, 700), (1, (1001,), 8, 2500), (2, (10,), 0, 500), (2, (10,), 3, 20),
             (2, (1001, 1002), 8, 4000), (3, (1001, 1002, 1001), 8, 5500)],
            [(2, (12, 13), 7, 120), (2, (1002,), 8, 2500), (3, (1002, 1001), 8, 4000)],
            [(3, (11,), 2, 700), (3, (1001,), 8, 2500)],
        ])

    def test_words_that_reach_beyond_the_sounds_do_not_stand(self):
        self.assertEqual(net_of(book_of(((1, 2), (10,), 0, 500)), [], [1]), [[(1, (1001,), 8, 2500)]])

    def test_made_words(self):
        commit = ((1, 2), ((1, (5,), 0, 0), (2, (6,), 4, 0)), True)
        net = net_of(Book(), [commit], [1, 2, 1, 2])
        for place in (0, 2):
            self.assertIn((place + 2, (5, 6), 4, 1000), net[place])
        self.assertEqual([len(pieces) for pieces in net], [5, 3, 3, 1])
        not_wished = net_of(Book(), [commit[:2] + (False,)], [1, 2, 1, 2])
        self.assertEqual([len(pieces) for pieces in not_wished], [4, 3, 2, 1])

    def test_a_made_word_that_the_book_has(self):
        commit = ((1, 2), ((1, (5,), 0, 0), (2, (6,), 4, 0)), True)
        for cost in (0, 300, 9999):
            net = net_of(book_of(((1, 2), (5, 6), 4, cost)), [commit], [1, 2])
            self.assertEqual([piece for piece in net[0] if piece[1] == (5, 6)], [(2, (5, 6), 4, cost)])
        other_kind = net_of(book_of(((1, 2), (5, 6), 5, 300)), [commit], [1, 2])
        self.assertEqual([piece for piece in other_kind[0] if piece[1] == (5, 6)],
                         [(2, (5, 6), 4, 1000), (2, (5, 6), 5, 300)])
        other_sounds = net_of(book_of(((1,), (5, 6), 4, 300)), [commit], [1, 2])
        self.assertEqual([piece for piece in other_sounds[0] if piece[1] == (5, 6)],
                         [(1, (5, 6), 4, 300), (2, (5, 6), 4, 1000)])

    def test_fifty_less_for_each_time_up_to_ten(self):
        for many in range(13):
            commits = [single((1, 2), (10,), 8, 3)] * many
            less = 50 * min(many, 10)
            net = net_of(book_of(*self.BOOK[1:3], ((1, 2), (10,), 0, 5000)), commits, [1, 2])
            self.assertEqual(net[0], [
                (1, (11,), 2, 700), (1, (1001,), 8, 2500), (2, (10,), 0, 5000 - less), (2, (1001, 1002), 8, 4000),
            ])

    def test_costs_do_not_fall_below_nought(self):
        for cost in (0, 49, 50, 51, 499, 500, 501):
            for many in (0, 1, 9, 10, 11, 60):
                net = net_of(book_of(((1,), (10,), 0, cost)), [single((1,), (10,))] * many, [1])
                self.assertEqual(net[0][0], (1, (10,), 0, max(0, cost - 50 * min(many, 10))))

    def test_all_kinds_with_these_sounds_and_signs_cost_less(self):
        net = net_of(book_of(*self.BOOK), [single((1, 2), (10,), 5, 3)], [1, 2])
        self.assertEqual([piece for piece in net[0] if piece[1] == (10,)], [(2, (10,), 0, 450), (2, (10,), 3, 0)])

    def test_other_sounds_or_other_signs_cost_what_they_did(self):
        commits = [single((1,), (10,)), single((1, 2), (11,)), single((2, 1), (10,)), single((1, 2), (10, 10))]
        net = net_of(book_of(self.BOOK[0]), commits, [1, 2])
        self.assertEqual(net[0], [(1, (1001,), 8, 2500), (2, (10,), 0, 500), (2, (1001, 1002), 8, 4000)])

    def test_plain_pieces_that_are_learnt(self):
        commits = [((1, 2), ((1, (1001,), 8, 2500), (2, (1002,), 8, 2500)), False), single((1, 2), (1001, 1002))]
        self.assertEqual(net_of(Book(), commits, [1, 2]), [
            [(1, (1001,), 8, 2450), (2, (1001, 1002), 8, 3950)], [(2, (1002,), 8, 2450)],
        ])

    def test_made_words_that_are_learnt(self):
        made = ((1, 2), ((1, (5,), 0, 0), (2, (6,), 4, 0)), True)
        commits = [made] + [single((1, 2), (5, 6))] * 3
        self.assertIn((2, (5, 6), 4, 850), net_of(Book(), commits, [1, 2])[0])

    def test_pieces_are_learnt_wherever_they_stood(self):
        commit = ((3, 1, 2, 1, 2), ((1, (9,), 0, 0), (3, (10,), 0, 0), (5, (10,), 0, 0)), False)
        self.assertEqual(net_of(book_of(self.BOOK[0]), [commit], [1, 2])[0][1], (2, (10,), 0, 400))

    def test_as_many_pieces_as_may_be(self):
        book = book_of(*(((0,), (k,), 0, 10 * k) for k in range(60)))
        commits = [((0, 0), ((1, (k,), 0, 0), (2, (k,), 4, 0)), True) for k in range(60)]
        with at_once(self):
            net = net_of(book, commits, [0] * 24)
            self.assertEqual(len(first_cuttings(net, ((1,) * 10,) * 10, 20)), 20)
        self.assertTrue(is_net(net))
        self.assertEqual([len(pieces) for pieces in net], [120 + 24 - k for k in range(23)] + [61])

    def plain_net(self, words, commits, sounds):
        """The words of the document once more, stretch by stretch."""
        names = {word[:3] for word in words}
        words = words + [word for word in made_words(commits) if word[:3] not in names]
        many = {(told[0], told[1]): told[2] for told in learnt(commits)}
        net = []
        for begin in range(len(sounds)):
            pieces = []
            for end in range(begin + 1, len(sounds) + 1):
                stretch = tuple(sounds[begin:end])
                plain = (stretch, tuple(1000 + sound for sound in stretch), 8, 1000 + 1500 * len(stretch))
                for name, signs, kind, cost in words + [plain]:
                    if name == stretch:
                        less = min(10, many.get((stretch, signs), 0)) * 50
                        pieces.append((end, signs, kind, cost - less if cost > less else 0))
            net.append(sorted(pieces))
        return net

    def test_books_and_commits_by_chance(self):
        numbers = Numbers(43)
        for commits in rows_of_commits(60, 47):
            book = numbers.book(60, 2, 5)
            sounds = list(numbers.row(0, 24, 2))
            net = net_of(book, commits, sounds)
            self.assertTrue(is_net(net))
            self.assertEqual(net, self.plain_net(book.words(), commits, sounds))

    def test_where_no_two_wishes_fight_there_is_a_cutting(self):
        numbers = Numbers(53)
        for commits in rows_of_commits(80, 59):
            sounds = list(numbers.row(2, 8, 2))
            net = net_of(numbers.book(20, 2, 5), commits, sounds)
            wishes = []
            for each in range(numbers.below(5)):
                begin = numbers.below(len(sounds))
                piece = net[begin][numbers.below(len(net[begin]))]
                g = 1 + numbers.below(len(sounds) - 1)
                wishes.append([("held", begin, piece[0], piece[1]), ("span", begin, piece[0]), ("border", g),
                               ("joined", g)][numbers.below(4)])
            self.assertEqual(how_many(thinned(net, wishes)) > 0, fighting(wishes) is None)

    def test_handed_in_stays_and_told_is_the_askers_own(self):
        book = book_of(*self.BOOK)
        check_own(self, lambda commits, sounds: net_of(book, commits, sounds), [COMMIT, COMMIT], [1, 2, 3, 1])
        check_own(self, lambda commits, sounds: net_of(book, commits, sounds), [], [])
        self.assertEqual(book.words(), sorted(self.BOOK))

    def test_a_book_that_is_changed_later(self):
        book = book_of(*self.BOOK)
        told = net_of(book, [], [1, 2])
        kept = copy.deepcopy(told)
        book.take((1,), (11,), 2)
        self.assertEqual(told, kept)
        self.assertNotEqual(net_of(book, [], [1, 2]), kept)


if __name__ == "__main__":
    unittest.main()
