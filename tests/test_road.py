import copy
import unittest

from signbench.errors import BenchError, Full
from signbench.fields import after
from signbench.road import Far, Near
from tests.test_fields import FIELD, MARKED, START, Chance
from tests.things import Numbers, lists_in, other_kinds, same_kinds, spoil_lists, wrong_things

WORDS = {
    "NoDeed": "deed", "NoStanding": "standing", "NoPlace": "place", "NoMark": "mark", "Marked": "marked",
    "Barred": "barred", "TooLong": "long",
}


def near_with(many):
    """A near end that has sent so many letters."""
    near = Near()
    for k in range(many):
        near.send(("choose", k, k))
    return near


def done_plainly(field, deeds):
    """The words of the answers to deeds done one by one, and the standing behind them."""
    standing, words = START, []
    for deed in deeds:
        try:
            standing = after(field, standing, deed)
            words.append("done")
        except BenchError as refusal:
            words.append(WORDS[type(refusal).__name__])
    return words, standing


class NearEnd(unittest.TestCase):
    def state(self, near):
        return near.letters(), near.answers()

    def test_nothing_is_sent_first(self):
        self.assertEqual(self.state(Near()), ([], []))

    def test_numbers_from_one_on(self):
        near = Near()
        self.assertEqual(near.send(("unmark",)), (1, ("unmark",)))
        self.assertEqual(near.send(("mark", (1,))), (2, ("mark", (1,))))
        self.assertEqual(near.send(("unmark",)), (3, ("unmark",)))
        self.assertEqual(near.letters(), [(1, ("unmark",)), (2, ("mark", (1,))), (3, ("unmark",))])
        self.assertEqual(near.answers(), [])

    def test_deeds_are_any_things(self):
        for thing in wrong_things() + [[], ()]:
            near = Near()
            told = near.send(thing)
            self.assertTrue(same_kinds(told, (1, thing)))
            self.assertTrue(same_kinds(near.letters(), [(1, thing)]))

    def test_full_at_eight(self):
        near = near_with(7)
        self.assertEqual(near.send(None), (8, None))
        for each in range(3):
            before = self.state(near)
            with self.assertRaises(Full) as caught:
                near.send(("unmark",))
            self.assertIsInstance(caught.exception, BenchError)
            self.assertEqual(self.state(near), before)

    def test_a_refused_letter_takes_no_number(self):
        near = near_with(8)
        with self.assertRaises(Full):
            near.send("lost")
        near.hear((3, "done"))
        self.assertEqual(near.send("new"), (9, "new"))
        self.assertEqual([letter[0] for letter in near.letters()], [1, 2, 4, 5, 6, 7, 8, 9])
        with self.assertRaises(Full):
            near.send("lost")

    def test_two_hundred_letters(self):
        near = Near()
        for k in range(1, 201):
            self.assertEqual(near.send(k), (k, k))
            near.hear((k, "done"))
        self.assertEqual(near.letters(), [])
        self.assertEqual(near.answers(), [(k, "done") for k in range(1, 201)])

    def test_answers_are_kept_sorted(self):
        near = near_with(5)
        for answer in ((4, "place"), (1, "done"), (5, "barred"), (2, "long")):
            self.assertIsNone(near.hear(answer))
        self.assertEqual(near.answers(), [(1, "done"), (2, "long"), (4, "place"), (5, "barred")])
        self.assertEqual(near.letters(), [(3, ("choose", 2, 2))])

    def test_all_eight_words(self):
        words = ["done"] + list(WORDS.values())
        near = near_with(8)
        for k, word in enumerate(words):
            near.hear((k + 1, word))
        self.assertEqual(near.answers(), list(enumerate(words, 1)))

    def test_the_first_answer_stays(self):
        near = near_with(3)
        near.hear((2, "done"))
        for word in ("done", "mark", "long"):
            before = self.state(near)
            self.assertIsNone(near.hear((2, word)))
            self.assertEqual(self.state(near), before)
        self.assertEqual(near.answers(), [(2, "done")])

    def test_answers_to_letters_that_were_not_sent(self):
        near = near_with(3)
        for number in (0, -1, 4, 5, 10 ** 59, -10 ** 59):
            near.hear((number, "done"))
        self.assertEqual(near.answers(), [])
        near.send(None)
        self.assertEqual([letter[0] for letter in near.letters()], [1, 2, 3, 4])
        self.assertEqual(near.answers(), [])

    def test_any_thing_else_changes_nothing(self):
        near = near_with(3)
        before = self.state(near)
        others = [
            (True, "done"), [1, "done"], (1, ["done"]), (1, ("done",)), (1, "Done"), (1, ""), (1, "doing"), (1, None),
            (1, True), (1, 0), (1,), ("done", 1), (1, "done", 1), (1, "done", "done"), ("1", "done"), ((1,), "done"),
            (None, "done"), ((1, "done"),), [(1, "done")], (1, "done "), (1, []), ([1], "done"), (1, "NoDeed"),
        ]
        for thing in wrong_things() + others + [[], ()]:
            kept = copy.deepcopy(thing)
            self.assertIsNone(near.hear(thing))
            self.assertEqual(self.state(near), before, thing)
            self.assertTrue(same_kinds(thing, kept))
        for spoilt in other_kinds((1, "done")):
            near.hear(spoilt)
        for spoilt in other_kinds(1):
            near.hear((spoilt, "done"))
        self.assertEqual(self.state(near), before)

    def test_what_was_sent_may_be_changed_behind_the_call(self):
        inner = [1, [2]]
        deed = [inner, inner, (inner, [])]
        kept = copy.deepcopy(deed)
        near = Near()
        letter = near.send(deed)
        self.assertTrue(same_kinds(deed, kept))
        spoil_lists(deed)
        self.assertEqual(letter, (1, kept))
        self.assertEqual(near.letters(), [(1, kept)])

    def test_what_was_told_is_the_askers_own(self):
        inner = [1, [2]]
        deed = [inner, inner, (inner, [])]
        kept = copy.deepcopy(deed)
        near = Near()
        told = [near.send(deed), near.letters(), near.letters(), near.send(deed), near.letters()]
        lists = [id(found) for each in told for found in lists_in(each)]
        self.assertEqual(len(lists), len(set(lists)))
        self.assertFalse(set(lists) & {id(found) for found in lists_in(deed)})
        for each in told:
            spoil_lists(each)
        self.assertEqual(near.letters(), [(1, kept), (2, kept)])
        self.assertEqual(deed, kept)

    def test_what_was_told_is_not_changed_later(self):
        near = near_with(3)
        near.hear((2, "done"))
        letters, answers = near.letters(), near.answers()
        kept = copy.deepcopy((letters, answers))
        near.hear((1, "long"))
        near.send("new")
        self.assertEqual((letters, answers), kept)
        answers.clear()
        letters.clear()
        self.assertEqual(near.answers(), [(1, "long"), (2, "done")])
        self.assertEqual([letter[0] for letter in near.letters()], [3, 4])

    def test_two_near_ends_know_nothing_of_one_another(self):
        first, second = Near(), Near()
        first.send("a")
        first.hear((1, "done"))
        self.assertEqual(self.state(second), ([], []))
        self.assertEqual(second.send("b"), (1, "b"))
        self.assertEqual(self.state(first), ([], [(1, "done")]))


class FarEnd(unittest.TestCase):
    def state(self, far):
        return far.standing_now(), far.due()

    def test_the_beginning(self):
        for field in (FIELD, (0, ()), (60, ())):
            self.assertEqual(self.state(Far(field)), (START, 1))

    def test_in_order(self):
        far = Far(FIELD)
        self.assertEqual(far.hear((1, ("commit", (1, 2)))), [(1, "done")])
        self.assertEqual(self.state(far), (((1, 2), 2, 2, None), 2))
        self.assertEqual(far.hear((2, ("mark", (7,)))), [(2, "done")])
        self.assertEqual(self.state(far), (((1, 2, 7), 3, 3, (2, 3)), 3))

    def test_each_word(self):
        for deed, word in (
            (("choose", 0, 0), "done"), ("any", "deed"), (("stand", None), "standing"), (("choose", 9, 9), "place"),
            (("put", 4, (1,)), "marked"), (("commit", (7,)), "barred"), (("commit", (1,) * 11), "long"),
        ):
            far = Far(FIELD)
            far.hear((1, ("stand", MARKED)))
            self.assertEqual(far.hear((2, deed)), [(2, word)])
            expected = (MARKED[0], 0, 0, MARKED[3]) if word == "done" else MARKED
            self.assertEqual(self.state(far), (expected, 3))
        far = Far(FIELD)
        self.assertEqual(far.hear((1, ("unmark",))), [(1, "mark")])
        self.assertEqual(self.state(far), (START, 2))

    def test_deeds_that_are_any_things(self):
        far = Far(FIELD)
        for number, thing in enumerate(wrong_things() + [[], ()], 1):
            kept = copy.deepcopy(thing)
            self.assertEqual(far.hear((number, thing)), [(number, "deed")])
            self.assertTrue(same_kinds(thing, kept))
            self.assertEqual(self.state(far), (START, number + 1))

    def test_early_letters_are_done_behind_the_due_one(self):
        far = Far(FIELD)
        self.assertEqual(far.hear((3, ("commit", (3,)))), [])
        self.assertEqual(far.hear((2, ("commit", (2,)))), [])
        self.assertEqual(far.hear((5, ("commit", (5,)))), [])
        self.assertEqual(self.state(far), (START, 1))
        self.assertEqual(far.hear((1, ("commit", (1,)))), [(1, "done"), (2, "done"), (3, "done")])
        self.assertEqual(self.state(far), (((1, 2, 3), 3, 3, None), 4))
        self.assertEqual(far.hear((4, ("unmark",))), [(4, "mark"), (5, "done")])
        self.assertEqual(self.state(far), (((1, 2, 3, 5), 4, 4, None), 6))

    def test_seven_beyond_is_kept_and_eight_is_not(self):
        far = Far(FIELD)
        for number in (8, 9, 10, 100, 10 ** 59):
            self.assertEqual(far.hear((number, ("commit", (number % 7,)))), [])
        self.assertEqual(self.state(far), (START, 1))
        for number in range(1, 7):
            self.assertEqual(far.hear((number, ("commit", (0,)))), [(number, "done")])
        self.assertEqual(far.hear((7, ("commit", (0,)))), [(7, "done"), (8, "done")])
        self.assertEqual(self.state(far), (((0,) * 7 + (1,), 8, 8, None), 9))
        self.assertEqual(far.hear((9, ("unmark",))), [(9, "mark")])

    def test_the_bound_goes_with_the_due_number(self):
        far = Far(FIELD)
        far.hear((1, ("commit", (1,))))
        self.assertEqual(far.hear((9, ("commit", (6,)))), [])
        self.assertEqual(far.hear((10, ("commit", (5,)))), [])
        for number in range(2, 8):
            far.hear((number, ("choose", 1, 1)))
        self.assertEqual(far.hear((8, ("choose", 1, 1))), [(8, "done"), (9, "done")])
        self.assertEqual(self.state(far), (((1, 6), 2, 2, None), 10))

    def test_of_one_number_the_first_that_came(self):
        far = Far(FIELD)
        far.hear((2, ("commit", (2,))))
        self.assertEqual(far.hear((2, ("commit", (3,)))), [])
        self.assertEqual(far.hear((2, None)), [])
        self.assertEqual(far.hear((1, ("commit", (1,)))), [(1, "done"), (2, "done")])
        self.assertEqual(far.standing_now(), ((1, 2), 2, 2, None))

    def test_done_ones_are_answered_again(self):
        far = Far(FIELD)
        far.hear((1, ("commit", (1,))))
        far.hear((2, ("unmark",)))
        far.hear((3, ("commit", (7,))))
        before = self.state(far)
        for deed in (("commit", (1,)), ("unmark",), None, [], ("mark", (5,))):
            self.assertEqual(far.hear((1, deed)), [(1, "done")])
            self.assertEqual(far.hear((2, deed)), [(2, "mark")])
            self.assertEqual(far.hear((3, deed)), [(3, "barred")])
        self.assertEqual(self.state(far), before)

    def test_an_early_one_that_comes_again_when_it_was_done(self):
        far = Far(FIELD)
        far.hear((2, ("commit", (2,))))
        far.hear((1, ("commit", (1,))))
        self.assertEqual(far.hear((2, ("commit", (2,)))), [(2, "done")])
        self.assertEqual(self.state(far), (((1, 2), 2, 2, None), 3))

    def test_any_thing_else_changes_nothing(self):
        far = Far(FIELD)
        far.hear((1, ("commit", (1,))))
        far.hear((3, ("commit", (3,))))
        before = self.state(far)
        deed = ("commit", (2,))
        others = [
            (True, deed), (False, deed), (0, deed), (-1, deed), (-10 ** 59, deed), [2, deed], (2,), (2, deed, deed),
            ("2", deed), ((2,), deed), (None, deed), deed, ((2, deed),), [(2, deed)], ([2], deed), (deed, 2),
            (2, "mark", (1,)),
        ]
        for thing in wrong_things() + others + [[], ()]:
            kept = copy.deepcopy(thing)
            told = far.hear(thing)
            self.assertTrue(same_kinds(told, []), thing)
            self.assertEqual(self.state(far), before, thing)
            self.assertTrue(same_kinds(thing, kept))
        self.assertEqual(far.hear((2, deed)), [(2, "done"), (3, "done")])

    def test_an_early_letter_may_be_changed_behind_the_call(self):
        far = Far(FIELD)
        deed = ["commit", (1,)]
        far.hear((2, deed))
        deed[:] = []
        inner = [1]
        far.hear((3, ("stand", inner)))
        inner[:] = []
        self.assertEqual(far.hear((1, ("unmark",))), [(1, "mark"), (2, "deed"), (3, "standing")])

    def test_what_was_told_is_the_askers_own(self):
        far = Far(FIELD)
        letter = (1, ("commit", (1,)))
        first = far.hear(letter)
        first.append("spoilt")
        second = far.hear(letter)
        self.assertEqual(second, [(1, "done")])
        second.clear()
        self.assertEqual(far.hear(letter), [(1, "done")])
        nothing = far.hear(None)
        nothing.append("spoilt")
        self.assertEqual(far.hear(None), [])

    def test_two_far_ends_know_nothing_of_one_another(self):
        first, second = Far(FIELD), Far(FIELD)
        first.hear((1, ("commit", (1,))))
        first.hear((3, ("commit", (3,))))
        self.assertEqual(self.state(second), (START, 1))
        self.assertEqual(second.hear((1, ("commit", (4,)))), [(1, "done")])
        self.assertEqual(second.hear((2, ("commit", (5,)))), [(2, "done")])
        self.assertEqual(second.standing_now(), ((4, 5), 2, 2, None))
        self.assertEqual(self.state(first), (((1,), 1, 1, None), 2))

    def test_another_field(self):
        far = Far((0, ()))
        self.assertEqual(far.hear((1, ("commit", (1,)))), [(1, "long")])
        self.assertEqual(far.hear((2, ("mark", (7,)))), [(2, "done")])
        self.assertEqual(far.standing_now(), ((7,), 1, 1, (0, 1)))


class LettersAstray(unittest.TestCase):
    def deeds(self, chance, field, many):
        found = []
        for each in range(many):
            odd = [None, [1, [2]], ("mark", [1]), ("out", 0, 0), ("stand", [])]
            found.append(odd[chance.numbers.below(5)] if chance.numbers.below(8) == 0 else chance.deed(field))
        return found

    def run_road(self, field, deeds, numbers):
        """Sends all deeds over a road that loses, doubles and delays; the two ends when all is answered."""
        near, far, on_way, coming, to_send = Near(), Far(field), [], [], list(deeds)
        steps = 0
        while to_send or near.letters():
            steps += 1
            self.assertLess(steps, 100000)
            if to_send and len(near.letters()) < 8:
                on_way.append(near.send(to_send.pop(0)))
            for letter in near.letters():
                if numbers.below(3) == 0:
                    on_way.append(letter)
            if on_way and numbers.below(3):
                letter = on_way[numbers.below(len(on_way))]
                if numbers.below(3):
                    on_way.remove(letter)
                if numbers.below(3):
                    coming += far.hear(letter)
            if coming and numbers.below(3):
                answer = coming[numbers.below(len(coming))]
                if numbers.below(3):
                    coming.remove(answer)
                if numbers.below(3):
                    near.hear(answer)
        return near, far

    def test_each_is_done_once_and_in_order(self):
        chance, numbers = Chance(11), Numbers(13)
        for each in range(40):
            field = chance.field()
            deeds = self.deeds(chance, field, 1 + numbers.below(40))
            near, far = self.run_road(field, deeds, numbers)
            words, standing = done_plainly(field, deeds)
            self.assertEqual(near.answers(), list(enumerate(words, 1)))
            self.assertEqual((far.standing_now(), far.due()), (standing, len(deeds) + 1))

    def test_letters_in_any_order_as_the_document_says_it(self):
        chance, numbers = Chance(17), Numbers(19)
        for each in range(60):
            field = chance.field()
            deeds = {}
            far, due, kept, words, standing = Far(field), 1, {}, {}, START
            for other in range(60):
                number, deed = numbers.below(due + 12), chance.deed(field)
                expected = []
                if 1 <= number < due:
                    expected = [(number, words[number])]
                elif due <= number <= due + 7:
                    kept.setdefault(number, deed)
                    while due in kept:
                        deeds[due] = kept[due]
                        found, standing = done_plainly(field, list(deeds.values()))
                        words[due] = found[-1]
                        expected.append((due, found[-1]))
                        due += 1
                self.assertEqual(far.hear((number, deed)), expected)
                self.assertEqual((far.standing_now(), far.due()), (standing, due))

    def test_a_thousand_hearings(self):
        far = Far(FIELD)
        for k in range(1, 1001):
            self.assertEqual(far.hear((k, ("choose", 0, 0))), [(k, "done")])
        self.assertEqual(far.due(), 1001)
        self.assertEqual(far.hear((1, None)), [(1, "done")])


if __name__ == "__main__":
    unittest.main()
