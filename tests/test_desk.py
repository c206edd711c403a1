import collections
import unittest

from signbench.bench import Bench
from signbench.desk import Desk
from signbench.errors import (
    Barred, BenchError, Fight, Marked, NoChoice, NoCutting, NoDeed, NoNode, NoPlace, NoSaying, NoTable, NoText, NoTurn,
    Nothing, TooLong, TooMany, Twice, Waits,
)
from signbench.journal import written
from signbench.texts import show_cutting, show_keys, show_numbers, show_wish, show_word
from signbench.wishes import is_wish
from tests.plain_bench import BenchChance, is_plainly_bench_deed, told_of
from tests.test_learning import single
from tests.things import Numbers, wrong_things

# Keys a, b and c make sounds 1, 2 and 3 at once; d, e and g wait; f is lost.
TABLE = (
    "row a 1 -", "row b 2 -", "row c 3 -", "row dd 31 d", "row da 4 -", "row ee 1.2.3 -", "row g 5 -", "row gg 6 -",
)
WORDS = ("word 1/11/0/500", "word 1.2/12/1/600", "word 1.2/13.14/1/700", "word 1.2.3/12/2/550", "word 2/21/0/400")
MAKING = TABLE + WORDS + ("field 10 99",)
# A right row of each kind, with the words that stand behind it.
AHEAD = ("row z 9 -", "word 9/9/0/9", "rate 0 0 0", "field 3 -", "learnt x", "begin")
BEHIND = (
    "press a", "end", "back", "wish span:0:1", "lift span:0:1", "shown 0", "commit", "drop", "close", "open",
    "choose 0 0", "put 0 5", "out 0 1", "reread", "pick 0 1 5 0 1", "undo", "again", "go 0", "text", "cutting",
    "choices 0 1", "guesses 3", "ledger", "journal",
)
QUESTIONS = ("text", "cutting", "guesses 20", "ledger", "journal")


def desk_of(*rows, making=MAKING):
    """A desk with a bench, to which these rows were said."""
    desk = Desk()
    for row in making + ("begin",) + rows:
        desk.say(row)
    return desk


class DeskTest(unittest.TestCase):
    def says(self, desk, row, answer):
        told = desk.say(row)
        self.assertIs(type(told), str)
        self.assertEqual(told, answer, row)

    def refused(self, error, desk, row):
        """The row is refused; where there is a bench all that can be asked of it stays."""
        begun = desk.bench is not None
        before = told_of(desk.bench) if begun else None
        with self.assertRaises(error) as caught:
            desk.say(row)
        self.assertIs(type(caught.exception), error, row)
        self.assertIsInstance(caught.exception, BenchError)
        self.assertEqual(desk.bench is not None, begun)
        if begun:
            self.assertEqual(told_of(desk.bench), before)
        return caught.exception

    def answers(self, desk, rows=QUESTIONS):
        return [desk.say(row) for row in rows]


class AnyRow(DeskTest):
    def test_what_is_no_text(self):
        for thing in wrong_things() + [[], (), ["text"], ("text",), b"text", ["begin"]]:
            for desk in (Desk(), desk_of("press ab")):
                self.refused(NoSaying, desk, thing)

    def test_what_is_no_row(self):
        for row in (
            "", " ", "  ", "Begin", "begin ", " begin", "texts", "give up", "give_up", "read back", "unmark", "mark 5",
            "stand", "help", "a" * 20000, "key 0", "press", "row", "\tbegin", "begin\n", "text\n", "none", "ok", "-",
        ):
            self.refused(NoSaying, Desk(), row)
            self.refused(NoSaying, desk_of("press ab"), row)

    def test_rows_ahead_of_the_bench_behind_its_beginning(self):
        for row in AHEAD:
            self.refused(NoSaying, desk_of(), row)
            Desk().say(row)
        self.refused(NoSaying, desk_of(), "word spoilt")
        self.refused(NoSaying, desk_of(), "row a 1 -")
        self.refused(NoSaying, desk_of(), "learnt ")

    def test_rows_of_the_bench_ahead_of_it(self):
        for row in BEHIND:
            desk = Desk()
            for making in MAKING:
                self.refused(NoSaying, desk, row)
                desk.say(making)
            self.refused(NoSaying, desk, row)
        self.refused(NoSaying, Desk(), "wish spoilt")

    def test_words_too_many_or_too_few(self):
        for desk, rows in ((Desk(), AHEAD), (desk_of("press ab", "wish span:0:1", "choose 0 0"), BEHIND)):
            for row in rows:
                if row.startswith("learnt"):
                    continue
                for spoilt in (row + " 1", row + " ", " " + row, row + " x", row.replace(" ", "  ", 1), row + " -"):
                    if spoilt != row:
                        self.refused(NoSaying, desk, spoilt)
                if " " in row:
                    self.refused(NoSaying, desk, row.rpartition(" ")[0])

    def test_words_without_signs(self):
        desk = Desk()
        for row in ("row  1 -", "row a  -", "row a 1 ", "rate  0 0", "rate 0  0", "rate 0 0 ", "field  -", "field 3 "):
            self.refused(NoSaying, desk, row)
        self.refused(NoText, desk, "word ")
        desk = desk_of("press ab", "wish span:0:1")
        for row in (
            "press ", "shown ", "choose  0", "choose 0 ", "put  5", "put 0 ", "out  1", "out 0 ", "pick  1 5 0 1",
            "pick 0  5 0 1", "pick 0 1  0 1", "pick 0 1 5  1", "pick 0 1 5 0 ", "go ", "choices  1", "choices 0 ",
            "guesses ",
        ):
            self.refused(NoSaying, desk, row)
        self.refused(NoText, desk, "wish ")
        self.refused(NoText, desk, "lift ")

    def test_numbers(self):
        desk = desk_of("press ab")
        for number in ("00", "01", "-1", "+1", "1.0", "1_0", "a", "0x1", "100000", "000000", "1" * 9000, "\u0661", "-"):
            for row in (
                "shown {}", "choose {} 0", "choose 0 {}", "put {} 5", "out {} 1", "out 0 {}", "pick {} 1 5 0 1",
                "pick 0 {} 5 0 1", "pick 0 1 {} 0 1", "pick 0 1 5 {} 1", "pick 0 1 5 0 {}", "go {}", "choices {} 1",
                "choices 0 {}", "guesses {}",
            ):
                self.refused(NoSaying, desk, row.format(number))
        for row, error in (
            ("shown 99999", NoDeed), ("choose 0 99999", NoDeed), ("go 99999", NoNode), ("choices 0 99999", NoPlace),
            ("pick 0 99999 5 0 1", NoPlace), ("pick 0 1 5 99999 1", NoChoice), ("pick 0 1 5 0 99999", NoChoice),
            ("out 0 99999", NoDeed), ("put 99999 5", NoDeed), ("put 0 99999", NoDeed),
        ):
            self.refused(error, desk, row)

    def test_rows_of_numbers(self):
        desk = desk_of()
        for row in ("1.", ".1", "1..1", "01", "1.01", "1,1", "--", "1.-", "100000", "1.100000", "a", "1.\u0661"):
            self.refused(NoSaying, desk, f"put 0 {row}")
            self.refused(NoSaying, Desk(), f"row a {row} -")
            self.refused(NoSaying, Desk(), f"field 3 {row}")


class Making(DeskTest):
    def test_nothing_at_all(self):
        desk = desk_of(making=())
        self.assertEqual(self.answers(desk), ["-|0|0|-", "-", "none", "none", "none"])
        self.says(desk, "press a", "ok")
        self.assertEqual(self.answers(desk), ["-|0|0|-", "-", "none", "none", "none"])

    def test_rows_of_the_table(self):
        desk = Desk()
        for row in MAKING:
            self.says(desk, row, "ok")
        self.says(desk, "begin", "ok")
        self.says(desk, "press aded", "ok")
        self.says(desk, "ledger", "1:1:marked")
        self.says(desk, "press deed", "ok")
        self.says(desk, "ledger", "1:1:marked 2:31:marked 3:1:marked 4:2:marked 5:3:marked")

    def test_no_table(self):
        desk = Desk()
        for row in (
            "row - 1 -", "row abcde 1 -", "row a 40 -", "row a 1.2.3.4 -", "row a 1 b", "row ab 1 cd", "row a 99999 -",
            "row " + "a" * 60 + " 1 -", "row ab 1 " + "a" * 60,
        ):
            self.refused(NoTable, desk, row)
        self.says(desk, "row ab - c", "ok")
        self.refused(NoTable, desk, "row ab 1 -")
        self.says(desk, "row abcd 1.2.39 zzz", "ok")

    def test_forty_rows_and_one_more(self):
        desk = Desk()
        for k in range(40):
            self.says(desk, f"row {show_keys((k // 26, k % 26))} {k} -", "ok")
        self.refused(NoTable, desk, "row z 1 -")
        self.says(desk, "begin", "ok")
        self.says(desk, "press bnaa", "ok")
        self.says(desk, "ledger", "1:39:marked 2:0:marked")

    def test_a_refused_row_changes_nothing(self):
        desk = Desk()
        desk.say("row a 1 -")
        self.refused(NoTable, desk, "row a 2 -")
        self.refused(NoTable, desk, "row b 40 -")
        self.refused(NoSaying, desk, "row b 2 B")
        desk.say("begin")
        desk.say("press ab")
        self.says(desk, "ledger", "1:1:marked")

    def test_keys_that_are_none(self):
        for keys in ("A", "a-", "", "1", "a.b", "a" * 61, "\u00e4"):
            self.refused(NoSaying, Desk(), f"row {keys} 1 -")
            self.refused(NoSaying, Desk(), f"row ab 1 {keys}")
            self.refused(NoSaying, desk_of(), f"press {keys}")

    def test_words(self):
        desk = Desk()
        self.says(desk, "word 1.2/12/1/600", "ok")
        self.refused(Twice, desk, "word 1.2/12/1/600")
        self.refused(Twice, desk, "word 1.2/12/1/700")
        self.says(desk, "word 1.2/12/2/600", "ok")
        for word in ("spoilt", "1/5/0", "40/5/0/1", "1/1000/0/1", "1/5/8/1", "1/5/0/10000", "01/5/0/1", "-/5/0/1"):
            self.refused(NoText, desk, f"word {word}")
        self.refused(NoSaying, desk, "word 1/5/0/1 1/6/0/1")
        desk.say("begin")
        self.says(desk, "guesses 20", "1.2/12/1/600 1.2/12/2/600")

    def test_sixty_words_and_one_more(self):
        desk = Desk()
        for k in range(60):
            desk.say(f"word 1/{k}/0/5")
        self.refused(TooMany, desk, "word 1/60/0/5")
        self.refused(Twice, desk, "word 1/59/0/5")
        self.refused(NoText, desk, "word 1/60/0/")

    def test_rates(self):
        rates = ("rate 9 1 999", "rate 9 2 300", "rate 9 2 0", "rate 0 9 0")
        self.says(desk_of("press ab", making=MAKING + rates), "cutting", "1:11:0:500 2:21:0:400")
        self.says(desk_of("press abc", making=MAKING + rates), "cutting", "3:12:2:550")
        self.says(desk_of("press ab"), "cutting", "2:12:1:600")
        for row in ("rate 10 0 0", "rate 0 10 0", "rate 0 0 1000", "rate 0 0 01", "rate -1 0 0", "rate 0 0 -"):
            self.refused(NoSaying, Desk(), row)
        desk = Desk()
        for row in MAKING + ("rate 9 1 999",):
            self.says(desk, row, "ok")
        self.refused(NoSaying, desk, "rate 9 1 1000")
        desk.say("begin")
        desk.say("press ab")
        self.says(desk, "cutting", "1:11:0:500 2:21:0:400")

    def test_rates_are_nought_at_first(self):
        # Two pieces cost 900, and one as much or one less: of like cost the two come first, as lists go.
        pieces = TABLE + ("word 1/11/0/500", "word 2/21/0/400")
        self.says(desk_of("press ab", making=pieces + ("word 1.2/12/1/900",)), "cutting", "1:11:0:500 2:21:0:400")
        self.says(desk_of("press ab", making=pieces + ("word 1.2/12/1/899",)), "cutting", "2:12:1:899")

    def test_fields(self):
        self.refused(TooLong, desk_of("press a", making=TABLE + WORDS), "commit")
        self.refused(Barred, desk_of("press a", making=TABLE + WORDS + ("field 5 11",)), "commit")
        self.says(desk_of("press a", making=TABLE + WORDS + ("field 5 11", "field 5 -")), "commit", "ok")
        self.says(Desk(), "field 60 " + ".".join(["1039"] * 20), "ok")
        for row in (
            "field 61 -", "field 60 1040", "field 5 " + ".".join(["1"] * 21), "field 05 -", "field - -", "field 5 1.",
        ):
            self.refused(NoSaying, Desk(), row)
        desk = Desk()
        desk.say("field 1 -")
        self.refused(NoSaying, desk, "field 61 -")
        desk.say("begin")
        self.says(desk, "put 0 5", "ok")
        self.refused(TooLong, desk, "put 0 5")

    def test_learnt(self):
        commits = [single((1,), (k,)) for k in range(25)]
        desk = Desk()
        for many, told in ((0, "0"), (1, "1"), (19, "19"), (20, "20"), (21, "20"), (25, "20"), (3, "3")):
            self.says(desk, "learnt " + written(commits[:many]), told)
        desk.say("begin")
        self.says(desk, "journal", written(commits[:3]))

    def test_learnt_in_the_place_of_those_before(self):
        desk = Desk()
        self.says(desk, "learnt " + written([single((1,), (7,))]), "1")
        self.says(desk, "learnt none", "0")
        desk.say("begin")
        self.says(desk, "journal", "none")

    def test_learnt_of_a_torn_journal(self):
        commits = [single((1,), (7,), wished=True), single((1, 2), (8, 9)), single((3,), (7,))]
        text = written(commits)
        for cut in range(len(text) + 1):
            desk = Desk()
            whole = text[:cut].count(";")
            self.says(desk, "learnt " + text[:cut], str(whole))
            desk.say("begin")
            self.says(desk, "journal", written(commits[:whole]) or "none")

    def test_learnt_reads_the_text_as_it_stands(self):
        text = written([single((1,), (7,))])
        for rest, told in (
            ("", "0"), (" ", "0"), (" " + text, "0"), (text + " " + text, "1"), (text + "  ", "1"), (text + text, "2"),
            ("learnt " + text, "0"), ("%", "0"),
        ):
            self.says(Desk(), "learnt " + rest, told)
        self.refused(NoSaying, Desk(), "learnt")
        self.refused(NoSaying, Desk(), " learnt x")
        self.refused(NoSaying, Desk(), "learntx x")

    def test_what_was_learnt_ahead_is_known(self):
        text = written([single((1, 2), (13, 14))] * 3)
        self.says(desk_of("press ab", making=MAKING + ("learnt " + text,)), "cutting", "2:13.14:1:550")


class Deeds(DeskTest):
    def test_press(self):
        desk = desk_of()
        self.says(desk, "press ab", "ok")
        self.says(desk, "text", "12|1|1|0:1")
        self.says(desk, "press d", "ok")
        self.says(desk, "undo", "2")
        self.refused(NoSaying, desk, "press -")
        self.refused(NoSaying, desk, "press " + "a" * 61)

    def test_sixty_keys(self):
        desk = desk_of("press " + "f" * 60)
        self.says(desk, "ledger", "none")
        self.says(desk, "go 60", "60")

    def test_press_that_is_refused_in_the_middle(self):
        desk = desk_of("press " + "a" * 22)
        with self.assertRaises(TooMany):
            desk.say("press bbcfd")
        self.assertTrue(desk.say("ledger").endswith("22:1:marked 23:2:marked 24:2:marked"))
        # The third key was refused, and those behind it were not pressed.
        self.says(desk, "undo", "23")
        self.says(desk, "again", "24")
        self.refused(NoNode, desk, "again")
        self.refused(TooMany, desk, "press a")
        self.says(desk, "press f", "ok")

    def test_end_back_and_drop(self):
        desk = desk_of("press ag")
        self.says(desk, "end", "ok")
        self.says(desk, "ledger", "1:1:marked 2:5:marked")
        self.refused(Nothing, desk, "end")
        self.says(desk, "back", "ok")
        self.says(desk, "ledger", "1:1:marked 2:5:back")
        self.says(desk, "press d", "ok")
        self.says(desk, "drop", "ok")
        self.says(desk, "ledger", "1:1:back 2:5:back")
        self.refused(Nothing, desk, "drop")
        self.refused(Nothing, desk, "back")

    def test_wish_and_lift(self):
        desk = desk_of("press ab")
        self.says(desk, "wish border:1", "ok")
        self.says(desk, "cutting", "1:11:0:500 2:21:0:400")
        self.assertEqual(self.refused(Fight, desk, "wish span:0:2").other, ("border", 1))
        self.refused(Nothing, desk, "lift span:0:2")
        self.says(desk, "lift border:1", "ok")
        self.says(desk, "cutting", "2:12:1:600")
        self.says(desk, "wish held:0:2:13.14", "ok")
        self.says(desk, "cutting", "2:13.14:1:700")
        self.refused(NoChoice, desk, "wish held:0:2:99")
        for wish in ("spoilt", "border:2", "border:0", "span:0:3", "held:0:1:", "border:01", "border:1:", "border"):
            self.refused(NoText, desk, f"wish {wish}")
            self.refused(NoText, desk, f"lift {wish}")
        self.refused(NoText, desk_of(), "wish span:0:1")
        self.refused(NoText, desk_of(), "lift span:0:1")
        self.refused(NoSaying, desk, "wish border:1 border:1")

    def test_twelve_wishes(self):
        desk = desk_of("press aaaaaaaaa", *[f"wish border:{g}" for g in range(1, 8)])
        for k in range(5):
            desk.say(f"wish span:{k}:{k + 1}")
        self.refused(TooMany, desk, "wish border:8")
        self.refused(TooMany, desk, "pick 7 8 9 0 1")
        self.says(desk, "wish border:7", "ok")

    def test_shown(self):
        desk = desk_of("press ab")
        self.says(desk, "shown 2", "ok")
        self.says(desk, "cutting", "1:11:0:500 2:21:0:400")
        self.refused(NoCutting, desk, "shown 7")
        self.refused(NoCutting, desk, "shown 19")
        self.refused(NoDeed, desk, "shown 20")
        self.refused(NoCutting, desk_of(), "shown 0")

    def test_commit_close_and_open(self):
        desk = desk_of("press ab")
        self.refused(Nothing, desk, "open")
        self.says(desk, "close", "ok")
        self.refused(Nothing, desk, "close")
        self.says(desk, "commit", "ok")
        self.says(desk, "text", "12|1|1|-")
        self.says(desk, "journal", "none")
        self.says(desk, "open", "ok")
        desk.say("press ad")
        self.refused(Waits, desk, "commit")
        desk.say("back")
        self.says(desk, "commit", "ok")
        self.says(desk, "journal", written([((1,), ((1, (11,), 0, 500),), False)]))
        self.refused(Nothing, desk, "commit")

    def test_the_field(self):
        desk = desk_of("put 0 5.6.7")
        self.says(desk, "text", "5.6.7|0|0|-")
        self.says(desk, "choose 1 2", "ok")
        self.says(desk, "text", "5.6.7|1|2|-")
        self.says(desk, "press a", "ok")
        self.says(desk, "text", "5.11.7|2|2|1:2")
        self.says(desk, "out 2 1", "ok")
        self.says(desk, "text", "5.11|2|2|1:2")
        for row, error in (
            ("choose 1 0", NoDeed), ("choose 0 3", NoPlace), ("choose 0 1000", NoDeed), ("put 0 -", NoDeed),
            ("put 0 1040", NoDeed), ("put 3 5", NoPlace), ("put 1000 5", NoDeed), ("put 0 99", Barred),
            ("put 0 5.5.5.5.5.5.5.5.5.5", TooLong), ("out 0 0", NoDeed), ("out 0 61", NoDeed), ("out 0 2", Marked),
            ("out 2 1", NoPlace), ("put 0 " + ".".join(["5"] * 25), NoDeed),
        ):
            self.refused(error, desk, row)
        desk.say("press b")
        desk.say("shown 1")
        self.says(desk, "text", "5.13.14|3|3|1:3")
        self.refused(Marked, desk, "put 2 5")

    def test_reread(self):
        desk = desk_of("put 0 11.21", "choose 0 2")
        self.says(desk, "reread", "ok")
        self.says(desk, "ledger", "1:1:marked 2:2:marked")
        self.refused(Waits, desk, "reread")
        self.refused(NoTurn, desk_of(), "reread")
        self.refused(NoTurn, desk_of("put 0 5", "choose 0 1"), "reread")

    def test_pick(self):
        # The choices of both sounds are 12, 13.14 and 1001.1002.
        for row, answer in (
            ("pick 0 2 9 0 1", "2:12:1:600"), ("pick 0 2 9 0 2", "2:13.14:1:700"), ("pick 0 2 1 1 1", "2:13.14:1:700"),
            ("pick 0 2 2 1 1", "2:1001.1002:8:4000"), ("pick 1 2 9 0 2", "1:11:0:500 2:1002:8:2500"),
            ("pick 0 1 1 1 1", "1:1001:8:2500 2:21:0:400"),
        ):
            desk = desk_of("press ab")
            self.says(desk, row, "ok")
            self.says(desk, "cutting", answer)

    def test_pick_is_a_wish(self):
        desk = desk_of("press ab", "pick 0 2 9 0 2")
        self.says(desk, "lift held:0:2:13.14", "ok")
        self.says(desk, "cutting", "2:12:1:600")
        desk.say("wish border:1")
        self.assertEqual(self.refused(Fight, desk, "pick 0 2 9 0 2").other, ("border", 1))

    def test_pick_of_none(self):
        desk = desk_of("press ab")
        for row in ("pick 0 2 9 0 4", "pick 0 2 9 0 0", "pick 0 2 2 1 2", "pick 0 2 2 2 1", "pick 0 2 2 0 3"):
            self.refused(NoChoice, desk, row)
        for row in ("pick 0 3 9 0 1", "pick 1 1 9 0 1", "pick 2 1 9 0 1", "pick 2 3 9 0 1", "pick 0 0 9 0 1"):
            self.refused(NoPlace, desk, row)
        for row in ("pick 0 2 0 0 1", "pick 0 2 10 0 1", "pick 0 3 0 0 1", "pick 0 3 10 9 9"):
            self.refused(NoSaying, desk, row)
        self.refused(NoPlace, desk, "pick 0 3 9 9 9")
        self.refused(NoPlace, desk_of(), "pick 0 1 9 0 1")

    def test_undo_again_and_go(self):
        desk = desk_of("press ab", "commit")
        self.says(desk, "undo", "2")
        self.says(desk, "text", "12|1|1|0:1")
        self.says(desk, "undo", "1")
        self.says(desk, "again", "2")
        self.says(desk, "again", "3")
        self.refused(NoNode, desk, "again")
        self.says(desk, "go 0", "0")
        self.refused(NoNode, desk, "undo")
        self.refused(NoNode, desk, "go 4")
        self.says(desk, "go 3", "3")
        self.says(desk, "text", "12|1|1|-")

    def test_which_refusal_goes_first(self):
        desk = desk_of("press d")
        self.refused(NoSaying, desk, "shown x")
        self.refused(NoText, desk, "wish span:0:1")
        self.refused(NoDeed, desk, "shown 20")
        self.refused(NoCutting, desk, "shown 19")
        self.refused(Waits, desk, "commit")
        self.refused(Waits, desk, "reread")


class Questions(DeskTest):
    def test_text(self):
        self.says(desk_of(), "text", "-|0|0|-")
        self.says(desk_of("press ab", "shown 1"), "text", "13.14|2|2|0:2")

    def test_cutting(self):
        self.says(desk_of(), "cutting", "-")
        self.says(desk_of("press ab", "shown 4"), "cutting", "1:11:0:500 2:1002:8:2500")

    def test_choices(self):
        desk = desk_of("press ab")
        self.says(desk, "choices 0 2", "12 13.14 1001.1002")
        self.says(desk, "choices 1 2", "21 1002")
        for row in ("choices 0 3", "choices 1 1", "choices 2 1", "choices 2 2", "choices 0 0"):
            self.refused(NoPlace, desk, row)
        self.refused(NoPlace, desk_of(), "choices 0 1")

    def test_guesses(self):
        desk = desk_of("press ab")
        self.says(desk, "guesses 2", "1.2.3/12/2/550 1.2/12/1/600")
        self.says(desk, "guesses 20", "1.2.3/12/2/550 1.2/12/1/600 1.2/13.14/1/700")
        self.says(desk, "guesses 0", "none")
        self.refused(NoSaying, desk, "guesses 21")
        self.says(desk_of("press abcab"), "guesses 20", "none")

    def test_ledger(self):
        self.says(desk_of(), "ledger", "none")
        desk = desk_of("press ab", "commit", "press a", "back", "press c")
        self.says(desk, "ledger", "1:1:committed 2:2:committed 3:1:back 4:3:marked")

    def test_journal(self):
        self.says(desk_of("press a"), "journal", "none")
        desk = desk_of("press ab", "wish border:1", "commit")
        # 1*1 + 2*2 + 1*3 + 1*4 + 11*5 + 0*6 + 500*7 + 2*8 + 21*9 + 0*10 + 400*11 = 8172 = 8*997 + 196.
        self.says(desk, "journal", "1.2 1 1:11:0:500 2:21:0:400 =196;")
        text = desk.say("journal")
        other = Desk()
        self.says(other, "learnt " + text, "1")
        other.say("begin")
        self.says(other, "journal", text)

    def test_questions_change_nothing(self):
        desk = desk_of("press ab", "wish border:1")
        before = told_of(desk.bench)
        for row in QUESTIONS + ("choices 0 1",):
            self.assertEqual(desk.say(row), desk.say(row))
        self.assertEqual(told_of(desk.bench), before)

    def test_two_desks_know_nothing_of_one_another(self):
        first, second = Desk(), Desk()
        first.say("row a 1 -")
        first.say("word 1/5/0/3")
        first.say("rate 9 0 7")
        first.say("field 9 -")
        first.say("learnt " + written([single((1,), (5,))]))
        second.say("begin")
        second.say("press a")
        self.assertEqual(self.answers(second), ["-|0|0|-", "-", "none", "none", "none"])
        first.say("begin")
        first.say("press a")
        self.assertEqual(first.say("text"), "5|1|1|0:1")


class RowsByChance(DeskTest):
    WORDS = {"give up": "drop", "read back": "reread"}

    def row_of(self, deed, bench):
        """The row that says a deed; None where none does."""
        word, rest = deed[0], deed[1:]
        if word == "key":
            return f"press {show_keys(rest)}"
        if word in ("wish", "lift"):
            return f"{word} {show_wish(rest[0])}" if is_wish(len(bench.marked()), rest[0]) else None
        parts = [show_numbers(part) if isinstance(part, tuple) else str(part) for part in rest]
        return " ".join([self.WORDS.get(word, word)] + parts)

    def making(self, parts):
        table, book, rates, field, commits = parts
        rows = [f"row {show_keys(keys)} {show_numbers(sounds)} {show_keys(left)}" for keys, sounds, left in table]
        rows += [f"word {show_word(word)}" for word in book.words()]
        rows += [f"rate {a} {b} {rates[a][b]}" for a in range(10) for b in range(10)]
        return rows + [f"field {field[0]} {show_numbers(field[1])}", f"learnt {written(commits)}", "begin"]

    def check(self, desk, bench):
        signs, begin, end, marked = bench.field_now()
        stretch = f"{marked[0]}:{marked[1]}" if marked else "-"
        ledger = " ".join(f"{number}:{sound}:{place}" for number, sound, place in bench.ledger())
        guesses = " ".join(show_word(word) for word in bench.guesses_of(20))
        self.assertEqual(self.answers(desk), [
            f"{show_numbers(signs)}|{begin}|{end}|{stretch}", show_cutting(bench.shown()), guesses or "none",
            ledger or "none", written(bench.all_commits()) or "none",
        ])

    def both(self, say, do):
        """Both are done, or both are refused alike."""
        try:
            told = do()
        except BenchError as refusal:
            with self.assertRaises(type(refusal)):
                say()
            return type(refusal), None
        return None, (say(), told)

    def test_as_the_bench_does(self):
        numbers = Numbers(401)
        chance = BenchChance(numbers)
        happened = collections.Counter()
        for each in range(60):
            parts = chance.makings()
            desk, bench = Desk(), Bench(*parts)
            for row in self.making(parts):
                desk.say(row)
            for step in range(50):
                if numbers.below(7) == 0:
                    name, number = chance.one(["undo", "again", "go"]), numbers.below(step + 2)
                    row, handed = (f"go {number}", [number]) if name == "go" else (name, [])
                    error, told = self.both(lambda: desk.say(row), lambda: getattr(bench, name)(*handed))
                    self.assertTrue(told is None or told[0] == str(told[1]))
                else:
                    deed = chance.deed(bench)
                    row = self.row_of(deed, bench) if is_plainly_bench_deed(deed) else None
                    if row is None:
                        continue
                    error, told = self.both(lambda: desk.say(row), lambda: bench.do(deed))
                    self.assertTrue(told is None or told[0] == "ok")
                    happened[(deed[0], error)] += 1
                self.check(desk, bench)
        self.assertGreater(len(happened), 25)


if __name__ == "__main__":
    unittest.main()
