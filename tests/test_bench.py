import collections
import copy
import unittest

from signbench.bench import Bench
from signbench.book import Book
from signbench.errors import (
    Barred, BenchError, Fight, Marked, NoChoice, NoCutting, NoDeed, NoNode, NoPlace, NoTurn, NoWish, Nothing, TooLong,
    TooMany, Waits,
)
from tests.plain_bench import BenchChance, PlainBench, questions_of, told_of
from tests.test_cuttings import FREE
from tests.test_fields import START
from tests.test_learning import single
from tests.test_wishes import is_plainly_wish
from tests.things import (
    Numbers, at_once, book_of, lists_in, other_kinds, same_kinds, spoil_lists, spoilings, wrong_things,
)

# Keys 0 to 2 make sounds 1 to 3 at once; 3, 4 and 6 wait; 5 is lost.
TABLE = [
    ((0,), (1,), ()), ((1,), (2,), ()), ((2,), (3,), ()), ((3, 3), (31,), (3,)), ((3, 0), (4,), ()),
    ((4, 4), (1, 2, 3), ()), ((6,), (5,), ()), ((6, 6), (6,), ()),
]
WORDS = (
    ((1,), (11,), 0, 500), ((1, 2), (12,), 1, 600), ((1, 2), (13, 14), 1, 700), ((1, 2, 3), (12,), 2, 550),
    ((2,), (21,), 0, 400),
)
A = (1, (11,), 0, 500)
B = (2, (21,), 0, 400)
WHOLE = (2, (12,), 1, 600)
# All cuttings of the sounds 1 and 2, in order.
IN_ORDER = [
    [WHOLE], [(2, (13, 14), 1, 700)], [A, B], [(1, (1001,), 8, 2500), B], [A, (2, (1002,), 8, 2500)],
    [(2, (1001, 1002), 8, 4000)], [(1, (1001,), 8, 2500), (2, (1002,), 8, 2500)],
]
FIELD = (10, (99,))


def makings(field=FIELD, commits=(), words=WORDS):
    return list(TABLE), book_of(*words), FREE, field, list(commits)


def bench_of(*deeds, **parts):
    """A bench with these deeds done, a key where a number stands."""
    bench = Bench(*makings(**parts))
    for deed in deeds:
        bench.do(("key", deed) if isinstance(deed, int) else deed)
    return bench


class BenchTest(unittest.TestCase):
    def refused(self, error, bench, deed):
        """The deed is refused and changes nothing, of what can be asked now or behind a step back."""
        before, kept = (told_of(bench), questions_of(bench)), copy.deepcopy(deed)
        with self.assertRaises(error) as caught:
            bench.do(deed)
        self.assertIs(type(caught.exception), error)
        self.assertIsInstance(caught.exception, BenchError)
        self.assertTrue(same_kinds((told_of(bench), questions_of(bench)), before), deed)
        self.assertTrue(same_kinds(deed, kept))
        return caught.exception


class TheBeginning(BenchTest):
    def test_nothing_is_there(self):
        self.assertTrue(same_kinds(told_of(Bench(*makings())), (0, [], (), [], [], START, True, [], [], [])))

    def test_nothing_at_all(self):
        bench = Bench([], Book(), FREE, (0, ()), [])
        self.assertTrue(same_kinds(told_of(bench), (0, [], (), [], [], START, True, [], [], [])))
        self.assertEqual(questions_of(bench), ([], [[], [], [], []]))
        self.assertEqual(bench.do(("key", 0)), ((), (0,)))

    def test_commits_learnt_ahead(self):
        commits = [single((1,), (k,)) for k in range(20)]
        self.assertEqual(Bench(*makings(commits=commits)).all_commits(), commits)


class Keys(BenchTest):
    def test_a_sound_comes(self):
        bench = bench_of()
        self.assertTrue(same_kinds(bench.do(("key", 0)), ((1,), ())))
        self.assertEqual(told_of(bench), (
            1, [(1, 1)], (), [], [A], ((11,), 1, 1, (0, 1)), True, [], [(1, 1, "marked")], [("mark", (11,))],
        ))

    def test_a_key_waits(self):
        bench = bench_of()
        self.assertEqual(bench.do(("key", 3)), ((), ()))
        self.assertEqual(told_of(bench), (1, [], (3,), [], [], START, True, [], [], []))
        self.assertEqual(bench.do(("key", 0)), ((4,), ()))
        self.assertEqual(bench.marked(), [(1, 4)])

    def test_left_keys_wait(self):
        bench = bench_of(3)
        self.assertEqual(bench.do(("key", 3)), ((31,), ()))
        self.assertEqual((bench.marked(), bench.waiting()), ([(1, 31)], (3,)))

    def test_a_key_is_lost(self):
        bench = bench_of(0)
        self.assertTrue(same_kinds(bench.do(("key", 5)), ((), (5,))))
        self.assertEqual((bench.marked(), bench.waiting()), ([(1, 1)], ()))
        self.assertEqual(bench_of(3).do(("key", 25)), ((), (3, 25)))

    def test_several_sounds_come_at_once(self):
        bench = bench_of(0, 4)
        self.assertEqual(bench.do(("key", 4)), ((1, 2, 3), ()))
        self.assertEqual(bench.marked(), [(1, 1), (2, 1), (3, 2), (4, 3)])
        self.assertEqual(bench.field_deeds(), [("mark", (11,)), ("mark", (11, 12))])

    def test_end(self):
        bench = bench_of(6)
        self.assertTrue(same_kinds(bench.do(("end",)), ((5,), ())))
        self.assertEqual((bench.marked(), bench.waiting()), ([(1, 5)], ()))
        bench = bench_of(0, 3)
        self.assertTrue(same_kinds(bench.do(("end",)), ((), (3,))))
        self.assertEqual((bench.marked(), bench.waiting()), ([(1, 1)], ()))

    def test_end_where_none_waits(self):
        self.refused(Nothing, bench_of(), ("end",))
        self.refused(Nothing, bench_of(0), ("end",))

    def test_twenty_four_sounds_and_one_more(self):
        bench = bench_of(*[k % 3 for k in range(23)])
        # Three sounds would come where one has room.
        bench.do(("key", 4))
        self.refused(TooMany, bench, ("key", 4))
        bench.do(("key", 5))
        self.assertEqual(bench.waiting(), ())
        bench.do(("key", 6))
        self.assertEqual(bench.do(("end",)), ((5,), ()))
        self.assertEqual(len(bench.marked()), 24)
        self.refused(TooMany, bench, ("key", 0))
        # A key that makes no sound may still be pressed.
        self.assertEqual(bench.do(("key", 5)), ((), (5,)))
        self.assertEqual(bench.do(("key", 6)), ((), ()))
        self.refused(TooMany, bench, ("end",))
        self.refused(TooMany, bench, ("key", 6))
        self.refused(TooMany, bench, ("key", 0))
        self.assertEqual(bench.do(("back",)), ("key", 6))
        self.assertEqual(bench.do(("back",)), ("sound", 24))
        self.assertEqual(bench.do(("key", 1)), ((2,), ()))
        self.assertEqual(bench.marked()[-1], (25, 2))

    def test_ninety_six_signs(self):
        bench = bench_of(*[0] * 24, words=[((1,), (1, 2, 3, 4), 0, 0)], field=(60, ()))
        self.assertEqual(bench.field_now(), ((1, 2, 3, 4) * 24, 96, 96, (0, 96)))
        self.refused(TooLong, bench, ("commit",))

    def test_numbers_go_on(self):
        bench = bench_of(0, 1, ("back",), 2, ("commit",), 0, ("give up",), 1)
        self.assertEqual(bench.marked(), [(5, 2)])
        self.assertEqual(bench.ledger(), [
            (1, 1, "committed"), (2, 2, "back"), (3, 3, "committed"), (4, 1, "back"), (5, 2, "marked"),
        ])


class Back(BenchTest):
    def test_a_waiting_key(self):
        bench = bench_of(0, 3)
        self.assertTrue(same_kinds(bench.do(("back",)), ("key", 3)))
        self.assertEqual((bench.marked(), bench.waiting()), ([(1, 1)], ()))
        self.assertEqual(bench.field_deeds(), [("mark", (11,))])

    def test_the_last_of_several_waiting_keys(self):
        table = [((7, 8, 9, 10), (1,), ())]
        bench = Bench(table, Book(), FREE, FIELD, [])
        for key in (7, 8, 9):
            bench.do(("key", key))
        self.assertEqual(bench.do(("back",)), ("key", 9))
        self.assertEqual(bench.waiting(), (7, 8))

    def test_a_marked_sound(self):
        bench = bench_of(0, 1)
        self.assertTrue(same_kinds(bench.do(("back",)), ("sound", 2)))
        self.assertEqual((bench.marked(), bench.shown()), ([(1, 1)], [A]))
        self.assertEqual(bench.ledger(), [(1, 1, "marked"), (2, 2, "back")])
        self.assertEqual(bench.field_deeds(), [("mark", (11,)), ("mark", (12,)), ("mark", (11,))])

    def test_the_last_marked_sound(self):
        bench = bench_of(0)
        self.assertEqual(bench.do(("back",)), ("sound", 1))
        self.assertEqual((bench.marked(), bench.shown(), bench.field_now()), ([], [], START))
        self.assertEqual(bench.field_deeds(), [("mark", (11,)), ("unmark",)])

    def test_neither(self):
        for bench in (bench_of(), bench_of(0, ("back",)), bench_of(3, ("back",)), bench_of(0, ("commit",))):
            self.refused(Nothing, bench, ("back",))

    def test_wishes_are_lifted(self):
        bench = bench_of(0, 1, 2)
        wishes = [("border", 1), ("span", 0, 1), ("held", 0, 1, (11,)), ("border", 2), ("span", 2, 3), ("span", 1, 2)]
        for wish in wishes:
            bench.do(("wish", wish))
        bench.do(("back",))
        self.assertEqual(bench.wishes(), [("border", 1), ("span", 0, 1), ("held", 0, 1, (11,)), ("span", 1, 2)])
        bench.do(("back",))
        self.assertEqual(bench.wishes(), [("span", 0, 1), ("held", 0, 1, (11,))])
        bench.do(("back",))
        self.assertEqual(bench.wishes(), [])

    def test_a_waiting_key_lifts_no_wish(self):
        bench = bench_of(0, 1, ("wish", ("border", 1)), 3, ("back",))
        self.assertEqual(bench.wishes(), [("border", 1)])


class Wishes(BenchTest):
    def test_a_wish(self):
        bench = bench_of(0, 1)
        self.assertIsNone(bench.do(("wish", ("border", 1))))
        self.assertEqual((bench.wishes(), bench.shown()), ([("border", 1)], [A, B]))
        self.assertEqual(bench.field_now(), ((11, 21), 2, 2, (0, 2)))

    def test_behind_the_others(self):
        wishes = [("span", 0, 2), ("held", 0, 2, (13, 14)), ("joined", 1)]
        bench = bench_of(0, 1, *[("wish", wish) for wish in wishes])
        self.assertEqual((bench.wishes(), bench.shown()), (wishes, IN_ORDER[1]))

    def test_one_that_stands_already(self):
        bench = bench_of(0, 1, ("wish", ("span", 0, 2)), ("wish", ("joined", 1)), ("shown", 1))
        self.assertIsNone(bench.do(("wish", ("span", 0, 2))))
        self.assertEqual(bench.wishes(), [("span", 0, 2), ("joined", 1)])
        # Nothing was changed, so the number stays; but the deed was done.
        self.assertEqual((bench.shown(), bench.here()), (IN_ORDER[1], 6))

    def test_no_wish(self):
        bench = bench_of(0, 1)
        for thing in wrong_things() + [
            ("border", 0), ("border", 2), ("joined", 2), ("span", 0, 3), ("span", 1, 1), ("border", True),
            ["border", 1], ("held", 0, 1, [11]), ("held", 0, 1, ()), ("border", 1, 1), ("wish", ("border", 1)),
        ]:
            self.refused(NoWish, bench, ("wish", thing))
        for spoilt in spoilings(("held", 0, 1, (11,))):
            if not is_plainly_wish(2, spoilt):
                self.refused(NoWish, bench, ("wish", spoilt))
        for thing in (("border", 1), ("span", 0, 1), ("held", 0, 1, (1001,))):
            self.refused(NoWish, bench_of(), ("wish", thing))

    def test_held_signs_that_are_no_choice(self):
        bench = bench_of(0, 1)
        for wish in (
            ("held", 0, 2, (11,)), ("held", 0, 1, (12,)), ("held", 1, 2, (1001,)), ("held", 0, 2, (11, 21)),
            ("held", 0, 2, (1001,)), ("held", 0, 1, (1039,)),
        ):
            self.refused(NoChoice, bench, ("wish", wish))
        for wish in (("held", 0, 2, (13, 14)), ("held", 0, 2, (1001, 1002)), ("held", 1, 2, (1002,))):
            self.assertIsNone(bench_of(0, 1).do(("wish", wish)))

    def test_held_signs_of_a_made_word(self):
        commit = ((1, 2), (A, B), True)
        self.assertIsNone(bench_of(0, 1, commits=[commit]).do(("wish", ("held", 0, 2, (11, 21)))))
        self.refused(NoChoice, bench_of(0, 1, commits=[commit[:2] + (False,)]), ("wish", ("held", 0, 2, (11, 21))))

    def test_a_fight(self):
        bench = bench_of(0, 1, 2, ("wish", ("border", 2)), ("wish", ("border", 1)))
        for wish, other in (
            (("joined", 1), ("border", 1)), (("span", 0, 3), ("border", 2)), (("span", 0, 2), ("border", 1)),
            (("span", 1, 3), ("border", 2)), (("held", 0, 2, (12,)), ("border", 1)),
        ):
            self.assertEqual(self.refused(Fight, bench, ("wish", wish)).other, other)

    def test_a_fight_with_several_tells_the_first(self):
        bench = bench_of(0, 1, 2, ("wish", ("span", 2, 3)), ("wish", ("border", 1)), ("wish", ("border", 2)))
        self.assertEqual(self.refused(Fight, bench, ("wish", ("span", 0, 3))).other, ("span", 2, 3))
        self.assertEqual(self.refused(Fight, bench, ("wish", ("joined", 2))).other, ("span", 2, 3))
        bench.do(("lift", ("span", 2, 3)))
        self.assertEqual(self.refused(Fight, bench, ("wish", ("span", 0, 3))).other, ("border", 1))

    def test_two_held_ones_fight(self):
        bench = bench_of(0, 1, ("wish", ("held", 0, 2, (12,))))
        self.assertEqual(self.refused(Fight, bench, ("wish", ("held", 0, 2, (13, 14)))).other, ("held", 0, 2, (12,)))

    def twelve(self):
        bench = bench_of(*[0] * 9)
        for g in range(1, 8):
            bench.do(("wish", ("border", g)))
        for k in range(5):
            bench.do(("wish", ("span", k, k + 1)))
        return bench

    def test_twelve_wishes_and_one_more(self):
        bench = self.twelve()
        self.assertEqual(len(bench.wishes()), 12)
        self.refused(TooMany, bench, ("wish", ("border", 8)))
        self.assertIsNone(bench.do(("wish", ("border", 7))))
        self.assertIsNone(bench.do(("wish", ("span", 0, 1))))
        bench.do(("lift", ("border", 1)))
        self.assertIsNone(bench.do(("wish", ("border", 8))))
        self.refused(TooMany, bench, ("wish", ("border", 1)))

    def test_which_refusal_goes_first(self):
        bench = self.twelve()
        self.refused(NoWish, bench, ("wish", ("border", 9)))
        self.refused(NoChoice, bench, ("wish", ("held", 0, 2, (99,))))
        self.refused(NoChoice, bench, ("wish", ("held", 7, 9, (99,))))
        self.assertEqual(self.refused(Fight, bench, ("wish", ("joined", 3))).other, ("border", 3))
        self.assertEqual(
            self.refused(Fight, bench, ("wish", ("held", 0, 2, (1001, 1001)))).other, ("border", 1),
        )

    def test_lift(self):
        bench = bench_of(0, 1, ("wish", ("joined", 1)), ("wish", ("span", 0, 2)))
        self.assertIsNone(bench.do(("lift", ("joined", 1))))
        self.assertEqual(bench.wishes(), [("span", 0, 2)])
        bench = bench_of(0, 1, ("wish", ("border", 1)), ("lift", ("border", 1)))
        self.assertEqual((bench.wishes(), bench.shown(), bench.field_now()), ([], [WHOLE], ((12,), 1, 1, (0, 1))))

    def test_lift_of_none_that_stands(self):
        bench = bench_of(0, 1, ("wish", ("border", 1)), ("wish", ("held", 0, 1, (11,))))
        things = [
            ("border", 2), ("joined", 1), ("span", 0, 1), ("held", 0, 1, (12,)), ("border", True), ["border", 1],
            ("held", 0, True, (11,)), ("held", False, 1, (11,)), ("held", 0, 1, [11]), ("border",), ("border", 1, 1),
        ]
        for thing in wrong_things() + things:
            self.refused(Nothing, bench, ("lift", thing))
        self.refused(Nothing, bench_of(), ("lift", ("border", 1)))

    def test_a_wish_may_come_while_keys_wait(self):
        bench = bench_of(0, 1, 3, ("wish", ("border", 1)), ("shown", 1), ("lift", ("border", 1)))
        self.assertEqual((bench.waiting(), bench.wishes(), bench.shown()), ((3,), [], [WHOLE]))


class Shown(BenchTest):
    def test_all_in_order(self):
        bench = bench_of(0, 1)
        for number, cutting in enumerate(IN_ORDER):
            self.assertIsNone(bench.do(("shown", number)))
            self.assertEqual(bench.shown(), cutting)
            signs = tuple(sign for piece in cutting for sign in piece[1])
            self.assertEqual(bench.field_now(), (signs, len(signs), len(signs), (0, len(signs))))

    def test_fewer(self):
        bench = bench_of(0, 1)
        for number in (7, 8, 19):
            self.refused(NoCutting, bench, ("shown", number))
        bench.do(("wish", ("border", 1)))
        self.assertIsNone(bench.do(("shown", 3)))
        self.refused(NoCutting, bench, ("shown", 4))

    def test_no_sound(self):
        for bench in (bench_of(), bench_of(3), bench_of(0, ("commit",))):
            for number in (0, 1, 19):
                self.refused(NoCutting, bench, ("shown", number))

    def test_numbers_beyond(self):
        bench = bench_of(*[0] * 8)
        self.assertIsNone(bench.do(("shown", 19)))
        for number in (20, -1, 10 ** 59, True, False, None, "0", (0,), [0]):
            self.refused(NoDeed, bench, ("shown", number))

    def test_the_number_is_set_to_nought(self):
        ahead = (0, 1, ("shown", 2))
        self.assertEqual(bench_of(*ahead).shown(), [A, B])
        for deed, cutting in (
            (("key", 2), [(3, (12,), 2, 550)]), (("back",), [A]), (("wish", ("span", 0, 2)), [WHOLE]),
            (("wish", ("border", 1)), [A, B]), (("commit",), []), (("give up",), []),
        ):
            self.assertEqual(bench_of(*ahead, deed).shown(), cutting)
        bench = bench_of(0, 1, ("wish", ("joined", 1)), ("shown", 1), ("lift", ("joined", 1)))
        self.assertEqual(bench.shown(), [WHOLE])
        bench = bench_of(0, 6, ("shown", 1), ("end",), ("back",))
        self.assertEqual(bench.shown(), [A])
        # A wish that is lifted with the last sound, and a new sound behind the same ones.
        bench = bench_of(0, 1, ("shown", 1), 0, ("back",))
        self.assertEqual(bench.shown(), [WHOLE])

    def test_the_number_stays(self):
        ahead = (0, 1, ("wish", ("span", 0, 2)), ("shown", 1))
        for deeds in (
            [3], [5], [3, ("back",)], [3, ("end",)], [("wish", ("span", 0, 2))], [("close",)], [("close",), ("open",)],
            [("choose", 0, 1)], [("put", 0, (5,))], [("put", 0, (5,)), ("out", 0, 1)], [("shown", 1)],
        ):
            bench = bench_of(*ahead, *deeds)
            self.assertEqual(bench.shown(), IN_ORDER[1], deeds)
            first, behind = bench.field_now()[3]
            self.assertEqual(bench.field_now()[0][first:behind], (13, 14))

    def test_what_was_learnt_comes_first(self):
        commits = [single((1, 2), (13, 14))] * 3
        self.assertEqual(bench_of(0, 1, commits=commits).shown(), [(2, (13, 14), 1, 550)])
        bench = bench_of(0, 1, ("shown", 1), ("commit",), 0, 1, ("shown", 1), ("commit",), 0, 1, ("shown", 1))
        self.assertEqual(bench.shown(), [(2, (13, 14), 1, 600)])
        bench = bench_of(*[0, 1, ("wish", ("held", 0, 2, (13, 14))), ("commit",)] * 3, 0, 1)
        self.assertEqual(bench.shown(), [(2, (13, 14), 1, 550)])

    def test_a_made_word_is_shown(self):
        bench = bench_of(1, 0, ("wish", ("border", 1)), ("commit",), 1, 0)
        self.assertEqual(bench.all_commits(), [((2, 1), ((1, (21,), 0, 400), (2, (11,), 0, 500)), True)])
        bench.do(("wish", ("joined", 1)))
        self.assertEqual(bench.shown(), [(2, (21, 11), 0, 1000)])

    def test_rates(self):
        # A piece of kind 1 is dear behind the beginning.
        rates = tuple(tuple(999 if (a, b) == (9, 1) else 0 for b in range(10)) for a in range(10))
        bench = Bench(TABLE, book_of(*WORDS), rates, FIELD, [])
        bench.do(("key", 0))
        bench.do(("key", 1))
        self.assertEqual(bench.shown(), [A, B])


class Commit(BenchTest):
    def test_commit(self):
        bench = bench_of(0, 1)
        self.assertIsNone(bench.do(("commit",)))
        self.assertEqual(told_of(bench), (
            3, [], (), [], [], ((12,), 1, 1, None), True, [((1, 2), (WHOLE,), False)],
            [(1, 1, "committed"), (2, 2, "committed")], [("mark", (11,)), ("mark", (12,)), ("commit", (12,))],
        ))
        self.assertTrue(same_kinds(bench.all_commits(), [((1, 2), (WHOLE,), False)]))

    def test_whether_a_wish_stood(self):
        bench = bench_of(0, 1, ("wish", ("border", 1)), ("commit",))
        self.assertTrue(same_kinds(bench.all_commits(), [((1, 2), (A, B), True)]))
        self.assertEqual(bench.wishes(), [])
        bench = bench_of(0, 1, ("wish", ("border", 1)), ("lift", ("border", 1)), ("commit",))
        self.assertTrue(same_kinds(bench.all_commits(), [((1, 2), (WHOLE,), False)]))

    def test_behind_those_learnt_ahead(self):
        ahead = [single((9,), (1,)), single((1,), (11,))]
        bench = bench_of(0, ("commit",), commits=ahead)
        self.assertEqual(bench.all_commits(), ahead + [((1,), ((1, (11,), 0, 450),), False)])

    def test_waiting_keys(self):
        self.refused(Waits, bench_of(0, 3), ("commit",))
        # Both are due where no sound is marked.
        self.refused(Waits, bench_of(3), ("commit",))

    def test_without_sounds(self):
        self.refused(Nothing, bench_of(), ("commit",))
        self.refused(Nothing, bench_of(0, ("commit",)), ("commit",))
        # That the field is full comes behind.
        self.refused(Nothing, bench_of(field=(0, ())), ("commit",))

    def test_a_barred_sign(self):
        bench = bench_of(0, field=(10, (11,)))
        self.assertEqual(bench.field_now(), ((11,), 1, 1, (0, 1)))
        self.refused(Barred, bench, ("commit",))
        bench.do(("shown", 1))
        self.assertIsNone(bench.do(("commit",)))
        self.assertEqual(bench.field_now(), ((1001,), 1, 1, None))
        self.refused(Barred, bench_of(0, field=(0, (11,))), ("commit",))
        self.refused(Waits, bench_of(0, 3, field=(0, (11,))), ("commit",))

    def test_the_limit(self):
        bench = bench_of(0, ("commit",), 0, ("commit",), field=(2, ()))
        self.assertEqual(bench.field_now(), ((11, 11), 2, 2, None))
        bench.do(("key", 0))
        self.refused(TooLong, bench, ("commit",))
        bench.do(("out", 0, 1))
        self.assertIsNone(bench.do(("commit",)))
        self.assertEqual(bench.field_now(), ((11, 11), 2, 2, None))
        self.refused(TooLong, bench_of(0, field=(0, ())), ("commit",))

    def test_into_the_field(self):
        bench = bench_of(("put", 0, (5, 6, 7, 8)), ("choose", 1, 3), 0)
        self.assertEqual(bench.field_now(), ((5, 11, 8), 2, 2, (1, 2)))
        bench.do(("choose", 0, 3))
        bench.do(("commit",))
        self.assertEqual(bench.field_now(), ((5, 11, 8), 2, 2, None))

    def test_closed_and_opened(self):
        bench = bench_of(0)
        self.assertIsNone(bench.do(("close",)))
        self.assertIs(bench.learns(), False)
        self.refused(Nothing, bench, ("close",))
        bench.do(("commit",))
        self.assertEqual(bench.all_commits(), [])
        self.assertEqual(bench.ledger(), [(1, 1, "committed")])
        self.assertIsNone(bench.do(("open",)))
        self.assertIs(bench.learns(), True)
        self.refused(Nothing, bench, ("open",))
        bench.do(("key", 0))
        bench.do(("commit",))
        self.assertEqual(bench.all_commits(), [((1,), (A,), False)])

    def test_open_at_first(self):
        self.refused(Nothing, bench_of(), ("open",))

    def test_closed_while_sounds_are_marked(self):
        bench = bench_of(0, ("close",), ("open",), ("commit",))
        self.assertEqual(len(bench.all_commits()), 1)
        bench = bench_of(("close",), 0, ("open",), ("commit",))
        self.assertEqual(len(bench.all_commits()), 1)
        bench = bench_of(0, ("close",), ("commit",), 0)
        self.assertEqual(bench.shown(), [A])

    def test_closed_it_still_knows_what_was_learnt(self):
        bench = bench_of(0, ("commit",), ("close",), 0)
        self.assertEqual(bench.shown(), [(1, (11,), 0, 450)])


class GiveUp(BenchTest):
    def test_all_goes(self):
        bench = bench_of(0, 1, ("wish", ("border", 1)), 3)
        self.assertIsNone(bench.do(("give up",)))
        self.assertEqual(told_of(bench), (
            5, [], (), [], [], START, True, [], [(1, 1, "back"), (2, 2, "back")],
            [("mark", (11,)), ("mark", (12,)), ("mark", (11, 21)), ("unmark",)],
        ))

    def test_keys_alone(self):
        bench = bench_of(("put", 0, (5,)), 3, ("give up",))
        self.assertEqual((bench.waiting(), bench.field_deeds()), ((), [("put", 0, (5,))]))

    def test_sounds_alone(self):
        bench = bench_of(0, ("commit",), 1, ("give up",))
        self.assertEqual(bench.ledger(), [(1, 1, "committed"), (2, 2, "back")])
        self.assertEqual(bench.field_now(), ((11,), 1, 1, None))
        self.assertEqual(len(bench.all_commits()), 1)

    def test_nothing(self):
        for bench in (bench_of(), bench_of(0, ("commit",)), bench_of(0, ("give up",)), bench_of(("put", 0, (5,)))):
            self.refused(Nothing, bench, ("give up",))


class FieldDeeds(BenchTest):
    def test_by_another_hand(self):
        bench = bench_of(("put", 0, (5, 6)), 0)
        self.assertEqual(bench.field_now(), ((11, 5, 6), 1, 1, (0, 1)))
        for deed, standing in (
            (("put", 3, (7,)), ((11, 5, 6, 7), 1, 1, (0, 1))), (("put", 0, (8,)), ((8, 11, 5, 6, 7), 2, 2, (1, 2))),
            (("out", 2, 2), ((8, 11, 7), 2, 2, (1, 2))), (("choose", 0, 3), ((8, 11, 7), 0, 3, (1, 2))),
        ):
            self.assertIsNone(bench.do(deed))
            self.assertEqual(bench.field_now(), standing)
            self.assertEqual(bench.field_deeds()[-1], deed)
            self.assertEqual((bench.marked(), bench.shown()), ([(1, 1)], [A]))

    def test_refusals_of_the_field(self):
        bench = bench_of(0, 1, ("wish", ("border", 1)), field=(2, (99,)))
        for error, deed in (
            (NoPlace, ("choose", 0, 3)), (NoPlace, ("put", 3, (99,))), (NoPlace, ("out", 1, 2)),
            (NoPlace, ("out", 2, 1)), (Marked, ("put", 1, (99,))), (Marked, ("out", 0, 1)), (Marked, ("out", 1, 1)),
            (Barred, ("put", 0, (5, 99, 5))), (TooLong, ("put", 0, (5, 5, 5))),
        ):
            self.refused(error, bench, deed)

    def test_no_deeds_of_a_field(self):
        bench = bench_of(("put", 0, (5,)))
        for deed in (
            ("choose",), ("choose", 0), ("choose", 1, 0), ("choose", 0, 1000), ("choose", 0, 0, 0), ("choose", True, 1),
            ("choose", None, None), ("put", 0), ("put", 0, ()), ("put", 0, [5]), ("put", 0, (1040,)), ("put", 0, 5),
            ("put", 0, (5,) * 25), ("put", -1, (5,)), ("put", [], {}.get(0)), ("out", 0), ("out", 0, 0), ("out", 0, 61),
            ("out", 1000, 1), ("out", 0, True), ("out", (), []),
        ):
            self.refused(NoDeed, bench, deed)

    def test_the_caret_stays_where_the_marked_signs_stay(self):
        # The word of three sounds has the signs of that of two.
        bench = bench_of(("put", 0, (5, 6)), 0, 1, ("choose", 2, 3))
        for deed in (
            ("key", 2), ("wish", ("joined", 1)), ("back",), ("wish", ("span", 0, 2)), ("lift", ("joined", 1)),
            ("shown", 0),
        ):
            bench.do(deed)
            self.assertEqual(bench.field_now(), ((12, 5, 6), 2, 3, (0, 1)))
        self.assertEqual(bench.field_deeds()[-1], ("choose", 2, 3))
        bench.do(("shown", 1))
        self.assertEqual(bench.field_now(), ((13, 14, 5, 6), 2, 2, (0, 2)))
        self.assertEqual(bench.field_deeds()[-1], ("mark", (13, 14)))

    def test_the_caret_where_a_key_makes_no_sound(self):
        bench = bench_of(0, ("choose", 0, 0), 3, ("back",), 5, ("close",))
        self.assertEqual(bench.field_now(), ((11,), 0, 0, (0, 1)))
        self.assertEqual(bench.field_deeds(), [("mark", (11,)), ("choose", 0, 0)])

    def test_a_mark_takes_the_place_of_the_chosen_signs(self):
        bench = bench_of(("put", 0, (5, 6, 7)), ("choose", 0, 2), 3)
        self.assertEqual(bench.field_now(), ((5, 6, 7), 0, 2, None))
        bench.do(("key", 0))
        self.assertEqual(bench.field_now(), ((1004, 7), 1, 1, (0, 1)))
        bench.do(("back",))
        self.assertEqual(bench.field_now(), ((7,), 0, 0, None))


class ReadBack(BenchTest):
    def test_read_back(self):
        bench = bench_of(("put", 0, (5, 11, 21, 6)), ("choose", 1, 3))
        self.assertIsNone(bench.do(("read back",)))
        self.assertEqual(told_of(bench), (
            3, [(1, 1), (2, 2)], (), [], [WHOLE], ((5, 12, 6), 2, 2, (1, 2)), True, [],
            [(1, 1, "marked"), (2, 2, "marked")],
            [("put", 0, (5, 11, 21, 6)), ("choose", 1, 3), ("mark", (12,))],
        ))

    def test_what_was_committed(self):
        bench = bench_of(0, 1, ("wish", ("border", 1)), ("commit",), ("choose", 0, 2), ("read back",))
        self.assertEqual(bench.marked(), [(3, 1), (4, 2)])
        self.assertEqual(bench.ledger(), [
            (1, 1, "committed"), (2, 2, "committed"), (3, 1, "marked"), (4, 2, "marked"),
        ])
        self.assertEqual(bench.field_now()[3], (0, len(bench.field_now()[0])))

    def test_signs_that_come_again(self):
        # What is shown then has the very signs that were chosen: they are marked now.
        bench = bench_of(("put", 0, (12,)), ("choose", 0, 1), ("read back",))
        self.assertEqual(bench.marked(), [(1, 1), (2, 2), (3, 3)])
        self.assertEqual(bench.field_now(), ((12,), 1, 1, (0, 1)))
        self.assertEqual(bench.field_deeds()[-1], ("mark", (12,)))

    def test_waits(self):
        chosen = (("put", 0, (12,)), ("choose", 0, 1))
        self.refused(Waits, bench_of(*chosen, 3), ("read back",))
        self.refused(Waits, bench_of(*chosen, 0), ("read back",))
        self.refused(Waits, bench_of(*chosen, 0, 3), ("read back",))
        self.refused(Waits, bench_of(3), ("read back",))
        self.refused(Waits, bench_of(0), ("read back",))

    def test_nothing_chosen(self):
        self.refused(NoTurn, bench_of(), ("read back",))
        self.refused(NoTurn, bench_of(("put", 0, (12,))), ("read back",))

    def test_twenty_four_signs_and_more(self):
        field = (60, ())
        put = (("put", 0, (21,) * 24), ("put", 0, (21,)))
        bench = bench_of(*put, ("choose", 0, 24), ("read back",), field=field)
        self.assertEqual(bench.marked(), [(k, 2) for k in range(1, 25)])
        self.assertEqual(bench.field_now(), ((21,) * 25, 24, 24, (0, 24)))
        self.refused(NoTurn, bench_of(*put, ("choose", 0, 25), field=field), ("read back",))

    def test_signs_that_can_not_be_read(self):
        self.refused(NoTurn, bench_of(("put", 0, (5,)), ("choose", 0, 1)), ("read back",))
        self.refused(NoTurn, bench_of(("put", 0, (11, 13, 11)), ("choose", 0, 3)), ("read back",))

    def test_sounds_that_are_too_many(self):
        for many in (12, 13):
            bench = bench_of(("put", 0, (7,) * many), ("choose", 0, many), words=[((1, 2), (7,), 0, 0)], field=(60, ()))
            if many == 12:
                bench.do(("read back",))
                self.assertEqual(len(bench.marked()), 24)
            else:
                self.refused(NoTurn, bench, ("read back",))

    def test_by_what_was_learnt(self):
        words = [((1,), (7,), 0, 100), ((2,), (7,), 0, 120)]
        chosen = (("put", 0, (7,)), ("choose", 0, 1), ("read back",))
        self.assertEqual(bench_of(*chosen, words=words).marked(), [(1, 1)])
        self.assertEqual(bench_of(*chosen, words=words, commits=[single((2,), (7,))]).marked(), [(1, 2)])
        learning = (1, ("commit",), ("out", 0, 1))
        self.assertEqual(bench_of(*learning, *chosen, words=words).marked(), [(2, 2)])
        self.assertEqual(bench_of(("close",), *learning, *chosen, words=words).marked(), [(2, 1)])


class NoDeeds(BenchTest):
    RIGHT = (
        ("key", 0), ("end",), ("back",), ("wish", ("border", 1)), ("lift", ("border", 1)), ("shown", 0), ("commit",),
        ("give up",), ("close",), ("open",), ("choose", 0, 0), ("put", 0, (1,)), ("out", 0, 1), ("read back",),
    )

    def test_any_thing(self):
        for bench in (bench_of(), bench_of(0, 1, ("wish", ("border", 1)), 3)):
            for thing in wrong_things() + [[], ()]:
                self.refused(NoDeed, bench, thing)

    def test_words(self):
        bench = bench_of(0)
        for word in (
            "Key", "keys", "", "giveup", "give_up", "give up ", "readback", "undo", "again", "go", "drop", "mark",
            "unmark", "stand", "learn", None, True, 0, ["end"], ("end",),
        ):
            for rest in ((), (0,), ((1,),), (START,), (0, 0), (0, (1,))):
                self.refused(NoDeed, bench, (word,) + rest)

    def test_more_or_less_than_the_words_ask_for(self):
        bench = bench_of(0)
        for deed in self.RIGHT:
            self.refused(NoDeed, bench, deed + (0,))
            self.refused(NoDeed, bench, list(deed))
            self.refused(NoDeed, bench, (deed,))
            if len(deed) > 1:
                self.refused(NoDeed, bench, deed[:1])

    def test_keys(self):
        bench = bench_of()
        for key in (-1, 26, 10 ** 59, None, "a", (0,), [0], True, False):
            self.refused(NoDeed, bench, ("key", key))
        self.assertEqual(bench.do(("key", 25)), ((), (25,)))

    def test_parts_of_another_kind(self):
        bench = bench_of(0)
        for deed in self.RIGHT:
            for spoilt in other_kinds(deed):
                self.refused(NoDeed, bench, spoilt)
            if deed[0] in ("wish", "lift"):
                continue
            for at in range(1, len(deed)):
                for part in other_kinds(deed[at]):
                    if not (deed[0] == "choose" and at == 2):
                        self.refused(NoDeed, bench, deed[:at] + (part,) + deed[at + 1:])

    def test_no_deed_goes_first(self):
        bench = bench_of(3)
        for deed in (("commit", 1), ("read back", 1), ("shown", 20), ("end", ()), ("put", 9, ())):
            self.refused(NoDeed, bench, deed)


class AlongTheTree(BenchTest):
    DEEDS = (
        ("key", 0), ("key", 1), ("wish", ("border", 1)), ("shown", 1), ("commit",), ("close",), ("key", 1), ("key", 3),
        ("back",), ("commit",), ("choose", 0, 2), ("put", 1, (5,)), ("open",), ("key", 6), ("end",), ("give up",),
        ("out", 0, 1), ("choose", 0, 1), ("key", 4), ("key", 4), ("lift", None), ("back",), ("commit",),
        ("choose", 1, 2), ("read back",), ("back",),
    )

    def nodes(self, bench):
        """By each node all that is told there but the field's deeds, each deed done one behind the other."""
        found = [told_of(bench)[:-1]]
        for deed in self.DEEDS:
            try:
                bench.do(deed)
            except BenchError:
                continue
            found.append(told_of(bench)[:-1])
        return found

    def refused_way(self, call, bench, *handed):
        before = told_of(bench)
        with self.assertRaises(NoNode) as caught:
            call(*handed)
        self.assertIsInstance(caught.exception, BenchError)
        self.assertTrue(same_kinds(told_of(bench), before))

    def test_go_to_every_node(self):
        bench = bench_of()
        nodes = self.nodes(bench)
        self.assertGreater(len(nodes), 20)
        order = list(range(len(nodes))) + list(range(0, len(nodes), 3))[::-1] + [4, 4, 0, 0]
        for number in order:
            log = bench.field_deeds()
            self.assertEqual(bench.go(number), number)
            self.assertTrue(same_kinds(told_of(bench)[:-1], nodes[number]))
            self.assertEqual(bench.field_deeds(), log + [("stand", nodes[number][5])])

    def test_undo_and_again_at_every_node(self):
        bench = bench_of()
        nodes = self.nodes(bench)
        last = len(nodes) - 1
        self.refused_way(bench.again, bench)
        for number in list(reversed(range(last))) + list(range(1, last + 1)):
            log = bench.field_deeds()
            step = bench.undo if number < bench.here() else bench.again
            self.assertEqual(step(), number)
            self.assertTrue(same_kinds(told_of(bench)[:-1], nodes[number]))
            self.assertEqual(bench.field_deeds(), log + [("stand", nodes[number][5])])
        bench.go(0)
        self.refused_way(bench.undo, bench)

    def test_the_root_of_a_new_bench(self):
        bench = bench_of()
        self.refused_way(bench.undo, bench)
        self.refused_way(bench.again, bench)
        for number in (1, -1, 10 ** 59, -10 ** 59):
            self.refused_way(bench.go, bench, number)
        self.assertEqual(bench.go(0), 0)
        self.assertEqual(bench.field_deeds(), [("stand", START)])

    def test_nodes_that_are_not_there(self):
        bench = bench_of(0, 1, ("commit",))
        for number in (4, 5, -1, -4, 10 ** 59):
            self.refused_way(bench.go, bench, number)

    def test_a_refused_deed_makes_no_node(self):
        bench = bench_of(0)
        self.refused(Nothing, bench, ("end",))
        self.assertEqual(bench.here(), 1)
        self.refused_way(bench.go, bench, 2)
        bench.undo()
        self.assertEqual(bench.again(), 1)
        bench.do(("key", 1))
        self.assertEqual(bench.here(), 2)

    def test_branches(self):
        bench = bench_of(0, ("commit",))
        bench.undo()
        bench.do(("give up",))
        self.assertEqual((bench.here(), bench.ledger(), bench.all_commits()), (3, [(1, 1, "back")], []))
        bench.undo()
        self.assertEqual(bench.again(), 3)
        bench.go(2)
        self.assertEqual(bench.ledger(), [(1, 1, "committed")])
        bench.undo()
        self.assertEqual(bench.again(), 2)

    def test_numbers_of_sounds_come_again_on_another_branch(self):
        bench = bench_of(0, 1)
        bench.undo()
        bench.do(("key", 2))
        self.assertEqual(bench.marked(), [(1, 1), (2, 3)])
        bench.go(2)
        self.assertEqual(bench.ledger(), [(1, 1, "marked"), (2, 2, "marked")])

    def test_what_was_learnt_is_that_of_the_way(self):
        bench = bench_of(0, ("commit",), 0, ("commit",))
        self.assertEqual(len(bench.all_commits()), 2)
        bench.go(1)
        self.assertEqual((bench.all_commits(), bench.shown()), ([], [A]))
        bench.do(("key", 1))
        bench.do(("commit",))
        self.assertEqual(bench.all_commits(), [((1, 2), (WHOLE,), False)])
        bench.go(3)
        self.assertEqual(bench.shown(), [(1, (11,), 0, 450)])

    def test_whether_it_learns_is_that_of_the_way(self):
        bench = bench_of(("close",), 0, ("commit",))
        bench.go(0)
        self.assertIs(bench.learns(), True)
        bench.do(("key", 0))
        bench.do(("commit",))
        self.assertEqual(len(bench.all_commits()), 1)
        bench.go(3)
        self.assertEqual((bench.learns(), bench.all_commits()), (False, []))

    def test_the_fields_deeds_go_on(self):
        bench = bench_of(0, ("commit",))
        bench.undo()
        bench.undo()
        bench.again()
        bench.go(1)
        marked, start = ((11,), 1, 1, (0, 1)), START
        self.assertEqual(bench.field_deeds(), [
            ("mark", (11,)), ("commit", (11,)), ("stand", marked), ("stand", start), ("stand", marked),
            ("stand", marked),
        ])
        bench.do(("give up",))
        self.assertEqual(bench.field_deeds()[-1], ("unmark",))

    def test_wishes_and_the_shown_number_come_again(self):
        bench = bench_of(0, 1, ("wish", ("span", 0, 2)), ("shown", 1), ("commit",))
        bench.undo()
        self.assertEqual((bench.wishes(), bench.shown()), ([("span", 0, 2)], IN_ORDER[1]))
        # The number is the one that it was: it stays where nothing changes it.
        bench.do(("key", 3))
        self.assertEqual(bench.shown(), IN_ORDER[1])
        bench.undo()
        bench.undo()
        self.assertEqual((bench.wishes(), bench.shown()), ([("span", 0, 2)], IN_ORDER[0]))

    def test_sixty_deeds(self):
        with at_once(self):
            deeds = [k % 3 for k in range(24)] + [("commit",)] + [0, ("commit",)] * 17 + [("close",)]
            bench = bench_of(*deeds, field=(60, ()))
        self.assertEqual(bench.here(), 60)
        self.assertEqual(len(bench.all_commits()), 18)
        self.assertEqual(len(bench.ledger()), 41)
        bench.go(0)
        for number in range(1, 61):
            self.assertEqual(bench.again(), number)


class Told(BenchTest):
    def test_choices(self):
        bench = bench_of(0, 1)
        self.assertEqual(bench.choices_of(0, 2), [(12,), (13, 14), (1001, 1002)])
        self.assertEqual(bench.choices_of(0, 1), [(11,), (1001,)])
        self.assertEqual(bench.choices_of(1, 2), [(21,), (1002,)])

    def test_choices_by_what_was_learnt(self):
        bench = bench_of(0, 1, ("shown", 1), ("commit",), 0, 1)
        self.assertEqual(bench.choices_of(0, 2), [(13, 14), (12,), (1001, 1002)])
        bench = bench_of(0, 1, commits=[single((1, 2), (1001, 1002))])
        self.assertEqual(bench.choices_of(0, 2), [(1001, 1002), (12,), (13, 14)])

    def test_guesses(self):
        bench = bench_of()
        self.assertEqual(bench.guesses_of(20), sorted(WORDS, key=lambda word: (word[3], word)))
        self.assertEqual(bench.guesses_of(0), [])
        bench = bench_of(0)
        self.assertEqual(bench.guesses_of(2), [WORDS[0], WORDS[3]])
        self.assertEqual(bench.guesses_of(3), [WORDS[0], WORDS[3], WORDS[1]])
        bench = bench_of(0, 1)
        self.assertEqual(bench.guesses_of(9), [WORDS[3], WORDS[1], WORDS[2]])
        bench = bench_of(0, 1, 2, 0)
        self.assertEqual(bench.guesses_of(9), [])

    def test_guesses_by_what_was_learnt(self):
        bench = bench_of(0, 1, ("shown", 1), ("commit",), 0)
        self.assertEqual(bench.guesses_of(1), [WORDS[2]])

    def test_kinds(self):
        bench = bench_of(0, 1, ("wish", ("border", 1)), 3)
        self.assertTrue(same_kinds(told_of(bench), (
            4, [(1, 1), (2, 2)], (3,), [("border", 1)], [A, B], ((11, 21), 2, 2, (0, 2)), True, [],
            [(1, 1, "marked"), (2, 2, "marked")], [("mark", (11,)), ("mark", (12,)), ("mark", (11, 21))],
        )))


class HandedInAndTold(BenchTest):
    def bench(self):
        return bench_of(
            0, ("commit",), 0, 1, ("wish", ("border", 1)), ("wish", ("span", 0, 1)), commits=[single((1,), (11,))],
        )

    def test_what_was_handed_in_stays_and_may_be_changed(self):
        table, book, rates, field, commits = makings(commits=[single((1,), (11,))])
        kept = copy.deepcopy((table, book.words(), commits))
        bench = Bench(table, book, rates, field, commits)
        twin = Bench(list(table), book.twin(), rates, field, list(commits))
        deeds = [
            ("key", 0), ("key", 1), ("wish", ("border", 1)), ("key", 0), ("key", 3), ("key", 0), ("commit",),
            ("choose", 0, 2), ("read back",),
        ]
        for deed in deeds[:3]:
            self.assertEqual(bench.do(deed), twin.do(deed))
        self.assertTrue(same_kinds((table, book.words(), commits), kept))
        table.clear()
        commits[:] = ["spoilt"]
        book.take((1,), (11,), 0)
        book.put(((1, 2), (99,), 0, 0))
        for deed in deeds[3:]:
            self.assertEqual(bench.do(deed), twin.do(deed))
            self.assertTrue(same_kinds((told_of(bench), questions_of(bench)), (told_of(twin), questions_of(twin))))
        bench.go(2)
        twin.go(2)
        self.assertTrue(same_kinds((told_of(bench), questions_of(bench)), (told_of(twin), questions_of(twin))))

    def test_what_was_told_is_the_askers_own(self):
        bench = self.bench()
        kept = copy.deepcopy((told_of(bench), questions_of(bench)))
        told = [told_of(bench), questions_of(bench), told_of(bench), questions_of(bench)]
        lists = [id(each) for part in told for each in lists_in(part)]
        self.assertEqual(len(lists), len(set(lists)))
        spoil_lists(told)
        self.assertTrue(same_kinds((told_of(bench), questions_of(bench)), kept))
        bench.do(("key", 3))
        bench.undo()
        self.assertTrue(same_kinds(told_of(bench)[:-1], kept[0][:-1]))
        bench.do(("commit",))
        self.assertEqual(bench.all_commits()[-1], ((1, 2), ((1, (11,), 0, 400), B), True))

    def test_what_was_told_is_not_changed_later(self):
        bench = self.bench()
        told = told_of(bench), questions_of(bench)
        kept = copy.deepcopy(told)
        for deed in (("lift", ("border", 1)), ("key", 2), ("commit",), ("close",), ("put", 0, (1,))):
            bench.do(deed)
        bench.undo()
        bench.go(0)
        self.assertTrue(same_kinds(told, kept))

    def test_two_benches_of_the_same_things_know_nothing_of_one_another(self):
        parts = makings(commits=[single((1,), (11,))])
        first, second = Bench(*parts), Bench(*parts)
        before = told_of(second), questions_of(second)
        for deed in (("key", 0), ("key", 1), ("wish", ("border", 1)), ("commit",), ("close",), ("put", 0, (5,))):
            first.do(deed)
        first.undo()
        self.assertTrue(same_kinds((told_of(second), questions_of(second)), before))
        second.do(("key", 1))
        self.assertEqual(second.ledger(), [(1, 2, "marked")])
        self.assertEqual(len(first.ledger()), 2)

    def test_a_deed_that_is_changed_behind_the_call(self):
        bench = bench_of(0)
        inner = ["border", 1]
        self.refused(NoWish, bench, ("wish", inner))
        inner[:] = ["spoilt"]
        deed = ["key", 1]
        self.refused(NoDeed, bench, deed)


class DeedsByChance(BenchTest):
    def test_as_the_document_says_once_more(self):
        numbers = Numbers(101)
        chance = BenchChance(numbers)
        happened = collections.Counter()
        for each in range(250):
            parts = chance.makings()
            bench, plain = Bench(*parts), PlainBench(*parts)
            for step in range(60):
                if numbers.below(6) == 0:
                    number = numbers.below(len(plain.nodes) + 2) - 1
                    self.lead(bench, plain, chance.one(["undo", "again", "go"]), number)
                else:
                    happened[self.do(bench, plain, chance.deed(bench))] += 1
                self.assertTrue(same_kinds(told_of(bench), plain.told()))
            self.assertTrue(same_kinds(questions_of(bench), plain.questions()))
        for deed in NoDeeds.RIGHT:
            self.assertGreater(happened[(deed[0], None)], 5, deed[0])
        refused = {error for word, error in happened}
        self.assertLessEqual({
            NoDeed, Waits, Nothing, NoWish, NoChoice, Fight, NoCutting, NoTurn, NoPlace, Marked, Barred, TooLong,
        }, refused)

    def do(self, bench, plain, deed):
        error, told = plain.do(deed)
        if error is None:
            self.assertTrue(same_kinds(bench.do(deed), told), deed)
        else:
            refusal = self.refused(error, bench, deed)
            if error is Fight:
                self.assertTrue(same_kinds(refusal.other, told))
        word = deed[0] if isinstance(deed, tuple) and deed and isinstance(deed[0], str) else None
        return word, error

    def lead(self, bench, plain, name, number):
        handed = [number] if name == "go" else []
        if plain.lead(name, number) is None:
            self.assertEqual(getattr(bench, name)(*handed), plain.stood[-1])
        else:
            with self.assertRaises(NoNode):
                getattr(bench, name)(*handed)


if __name__ == "__main__":
    unittest.main()
