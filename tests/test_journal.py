import re
import unittest

from signbench.errors import BenchError, NoText
from signbench.journal import come_up, written
from signbench.learning import learnt
from tests.test_learning import COMMIT, is_plainly_commit, rows_of_commits, single
from tests.things import Numbers, check_own, same_kinds, wrong_things

# By hand: 1*1 + 2*2 + 3*3 + 1*4 + 1*5 + 10*6 + 0*7 + 500*8 + 3*9 + 11*10 + 12*11 + 4*12 + 900*13 = 16100,
# and 16100 = 16*997 + 148.
ROW = "1.2.3 1 1:10:0:500 3:11.12:4:900 =148;"
# By hand: 7*1 + 0*2 + 1*3 + 1007*4 + 8*5 + 2500*6 = 19078 = 19*997 + 135.
OTHER = ((7,), ((1, (1007,), 8, 2500),), False)
OTHER_ROW = "7 0 1:1007:8:2500 =135;"
N = "(?:0|[1-9][0-9]*)"
ROW_FORM = re.compile(f"({N}(?:[.]{N})*) ([01])((?: {N}:{N}(?:[.]{N})*:{N}:{N})+) =({N});")


def come_up_plainly(text):
    """The words of the document once more, by the form of a row."""
    found = []
    while len(found) < 60:
        row = ROW_FORM.match(text)
        if row is None:
            break
        numbers = [int(figures) for figures in re.findall("[0-9]+", row[0])]
        check = numbers.pop()
        if sum(place * number for place, number in enumerate(numbers, 1)) % 997 != check:
            break
        sounds = tuple(map(int, row[1].split(".")))
        pieces = []
        for piece in row[3].split():
            end, signs, kind, cost = piece.split(":")
            pieces.append((int(end), tuple(map(int, signs.split("."))), int(kind), int(cost)))
        commit = (sounds, tuple(pieces), row[2] == "1")
        if not is_plainly_commit(commit):
            break
        found.append(commit)
        text = text[row.end():]
    return found


def checked(row):
    """A row, written without its check, with the check that it should have."""
    numbers = [int(figures) for figures in re.findall("[0-9]+", row)]
    return f"{row} ={sum(place * number for place, number in enumerate(numbers, 1)) % 997};"


class Written(unittest.TestCase):
    def test_no_commits(self):
        self.assertEqual(written([]), "")

    def test_by_hand(self):
        self.assertEqual(written([COMMIT]), ROW)
        self.assertEqual(written([OTHER]), OTHER_ROW)

    def test_rows_without_anything_between(self):
        self.assertEqual(written([COMMIT, OTHER, OTHER, COMMIT]), ROW + OTHER_ROW + OTHER_ROW + ROW)

    def test_wished_and_not(self):
        # The 1 stands at the fourth place, so the check is less by 4.
        self.assertEqual(written([COMMIT[:2] + (False,)]), "1.2.3 0 1:10:0:500 3:11.12:4:900 =144;")

    def test_noughts(self):
        self.assertEqual(written([((0,), ((1, (0,), 0, 0),), False)]), "0 0 1:0:0:0 =3;")

    def test_a_check_of_nought(self):
        # 1*1 + 0*2 + 1*3 + 0*4 + 0*5 + cost*6 is 4 + 6*cost: 4 + 6*497 = 2986 leaves 992; 4 + 6*1661 = 9970 leaves 0.
        self.assertEqual(written([((1,), ((1, (0,), 0, 1661),), False)]), "1 0 1:0:0:1661 =0;")
        self.assertEqual(come_up("1 0 1:0:0:1661 =0;"), [((1,), ((1, (0,), 0, 1661),), False)])

    def test_sixty_commits_come_up_again(self):
        numbers = Numbers(3)
        commits = [numbers.commit(24, 40, 1040, 9) for each in range(60)]
        self.assertEqual(come_up(written(commits)), commits)

    def test_commits_by_chance(self):
        for commits in rows_of_commits(40, 5):
            text = written(commits)
            self.assertEqual(come_up_plainly(text), commits)
            self.assertTrue(same_kinds(come_up(text), commits))
            self.assertRegex(text, r"\A[ -~]*\Z")

    def test_handed_in_stays(self):
        for commits in ([], [COMMIT, OTHER, COMMIT]):
            check_own(self, written, commits)


class ComeUp(unittest.TestCase):
    def check(self, text):
        told = come_up(text)
        self.assertTrue(same_kinds(told, come_up_plainly(text)), text)
        return told

    def test_any_thing_that_is_no_text(self):
        for thing in wrong_things() + [[], (), [ROW], (ROW,), ROW.encode()]:
            if isinstance(thing, str):
                continue
            with self.assertRaises(NoText) as caught:
                come_up(thing)
            self.assertIsInstance(caught.exception, BenchError)

    def test_texts_without_a_row(self):
        for text in ("", " ", ";", ";;", "none", "=", "=0;", "0;", "1 1;", "1 1 =3;", ".", ": : : :;", "a" * 20000):
            self.assertEqual(come_up(text), [], text)

    def test_rows(self):
        self.assertEqual(come_up(ROW), [COMMIT])
        self.assertEqual(come_up(OTHER_ROW + ROW + OTHER_ROW), [OTHER, COMMIT, OTHER])

    def test_more_rows_than_sixty(self):
        for many in (59, 60, 61, 62, 100, 500):
            self.assertEqual(come_up(ROW * many), [COMMIT] * min(many, 60))
        self.assertEqual(come_up(ROW * 60 + "spoilt"), [COMMIT] * 60)
        self.assertEqual(come_up(OTHER_ROW + ROW * 60 + OTHER_ROW), [OTHER] + [COMMIT] * 59)
        self.assertEqual(come_up(written([COMMIT] * 61)), [COMMIT] * 60)

    def test_cut_at_every_place(self):
        text = ROW + OTHER_ROW + ROW
        ends = [len(ROW), len(ROW + OTHER_ROW), len(text)]
        for cut in range(len(text) + 1):
            commits = [COMMIT, OTHER, COMMIT][:sum(end <= cut for end in ends)]
            self.assertEqual(come_up(text[:cut]), commits)
            self.check(text[cut:])

    def test_what_is_learnt_behind_a_torn_journal(self):
        commits = [COMMIT, OTHER, COMMIT, OTHER]
        text = written(commits)
        for cut in range(len(text) + 1):
            self.assertEqual(learnt(come_up(text[:cut])), learnt(commits[:text[:cut].count(";")]))

    def test_rows_left_out_twice_and_exchanged(self):
        third = single((0, 39), (0, 1039), 8, 99999, True)
        rows = [ROW, OTHER_ROW, written([third])]
        self.assertEqual(come_up(rows[0] + rows[2]), [COMMIT, third])
        self.assertEqual(come_up(rows[0] + rows[1] + rows[1] + rows[2]), [COMMIT, OTHER, OTHER, third])
        self.assertEqual(come_up(rows[2] + rows[1] + rows[0]), [third, OTHER, COMMIT])

    def test_rows_joined(self):
        for between in ("", " ", "; ", ";;", " ;", "\n", ";\n"):
            self.assertEqual(come_up(OTHER_ROW + ROW[:-1] + between + ROW), [OTHER, COMMIT][:1 + (between[:1] == ";")])
        self.assertEqual(come_up(OTHER_ROW[:-1] + ROW), [])

    def test_a_row_behind_a_spoilt_one(self):
        self.assertEqual(come_up(ROW + ROW.replace("148", "149") + OTHER_ROW), [COMMIT])
        self.assertEqual(come_up("spoilt;" + ROW), [])
        self.assertEqual(come_up(";" + ROW), [])
        self.assertEqual(come_up(" " + ROW), [])

    def test_a_check_that_is_wrong(self):
        for check in range(1100):
            told = come_up(ROW.replace("=148", f"={check}"))
            self.assertEqual(told, [COMMIT] if check == 148 else [])
        for check in ("", "-1", "0148", "148 ", " 148", "=148", "1.48", "148.0", "1145", "x"):
            self.assertEqual(come_up(ROW.replace("=148", f"={check}")), [])
        self.assertEqual(come_up(ROW.replace("=148", "148")), [])
        self.assertEqual(come_up(ROW.replace(" =148", "=148")), [])

    def test_noughts_ahead(self):
        for at, sign in enumerate(ROW):
            if sign.isdigit() and not ROW[at - 1:at].isdigit():
                self.assertEqual(come_up(ROW[:at] + "0" + ROW[at:]), [], at)

    def test_very_great_numbers(self):
        for great in ("1" * 60, "997" + "0" * 60, "9" * 4000):
            for at in range(len(ROW)):
                self.assertEqual(self.check(ROW[:at] + great + ROW[at:]), [])
        great = ROW.replace("148", "148" + "0" * 15000)
        for text in ("9" * 20000, "0" * 20000, ROW.replace("500", "1" * 15000), great):
            self.assertEqual(come_up(text), [])

    def test_rows_of_no_commit_with_the_right_check(self):
        for row in (
            "1 1 1:5:0:100000", "40 1 1:5:0:10", "1 1 1:1040:0:10", "1 1 1:5:9:10", "1 1 2:5:0:10", "1.1 1 1:5:0:10",
            "1.1 1 1:5:0:10 1:5:0:10", "1.1 1 2:5:0:10 1:5:0:10", "1.1 1 1:5:0:10 3:5:0:10", "1 1 0:5:0:10",
            ".".join(["1"] * 25) + " 1 25:5:0:10", "1 1 1:" + ".".join(["5"] * 25) + ":0:10", "1 2 1:5:0:10",
            "1 1 1:5:0:10 1:5:0:10", "1 1", "1", "1 1 1:5:0", "1 1 1:5:0:10:3", "1 1:5:0:10", "- 1 1:5:0:10",
            "1 1 1:-:0:10", "1  1 1:5:0:10", "1 1  1:5:0:10", "1 1 1:5:0:10 ", " 1 1 1:5:0:10", "1. 1 1:5:0:10",
            ".1 1 1:5:0:10", "1 1 1:5.:0:10", "1 1 1:.5:0:10", "1 1 :1:5:0:10", "1..1 1 2:5:0:10", "1 -1 1:5:0:10",
            "1 +1 1:5:0:10", "+1 1 1:5:0:10", "1 1 1:5:0:1_0", "1 1 1:5:0:1 0", "1 11 1:5:0:10", "1 1 1:5:0:1e1",
        ):
            text = checked(row)
            self.assertEqual(come_up(text), [], text)
            self.assertEqual(come_up_plainly(text), [], text)
            self.assertEqual(come_up(ROW + text + ROW), [COMMIT], text)

    def test_rows_at_the_bounds(self):
        for commit in (
            ((39,) * 24, ((24, (1039,) * 24, 8, 99999),), True),
            ((0,) * 24, tuple((k + 1, (0,) * 24, 0, 0) for k in range(24)), False),
        ):
            self.assertEqual(come_up(written([commit])), [commit])

    def test_signs_that_no_row_has(self):
        for sign in "aZ!-+_,/|~\t\n\"'()=:;. ":
            for at in range(len(ROW)):
                self.check(ROW[:at] + sign + ROW[at:] + OTHER_ROW)
                self.check(ROW[:at] + sign + ROW[at + 1:] + OTHER_ROW)

    def test_each_sign_left_out_twice_or_another_figure(self):
        text = ROW + OTHER_ROW
        for at in range(len(text)):
            self.check(text[:at] + text[at + 1:])
            self.check(text[:at] + text[at] + text[at:])
            for figure in "0123456789":
                self.check(text[:at] + figure + text[at + 1:])

    def test_figures_of_other_tongues(self):
        for figure in ("\u0661", "\u00b9", "\uff11"):
            self.assertEqual(come_up(ROW.replace("1.2.3", figure + ".2.3")), [])

    def test_texts_torn_by_chance(self):
        numbers = Numbers(41)
        for commits in rows_of_commits(40, 43):
            rows = [written([commit]) for commit in commits]
            for each in range(10):
                torn = list(rows)
                for other in range(1 + numbers.below(3)):
                    self.tear(torn, numbers)
                self.check("".join(torn))

    def tear(self, rows, numbers):
        at = numbers.below(len(rows) + 1)
        what = numbers.below(4)
        if what == 0 or not rows[at:]:
            rows.insert(at, (rows + [""])[numbers.below(len(rows) + 1)])
        elif what == 1:
            rows.pop(at)
        else:
            cut = numbers.below(len(rows[at]) + 1)
            rows[at] = rows[at][:cut] + (rows[at][cut + 1:] if what == 2 else "")

    def test_what_is_told_is_the_askers_own(self):
        check_own(self, come_up, ROW + OTHER_ROW + ROW)
        check_own(self, come_up, "")


if __name__ == "__main__":
    unittest.main()
