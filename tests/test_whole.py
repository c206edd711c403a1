"""The promise over the whole program: rows of deeds drawn at large, each part looked at behind each deed."""

import unittest

from signbench.bench import Bench
from signbench.cuttings import how_many, prices
from signbench.errors import BenchError, Fight, NoCutting
from signbench.fields import after
from signbench.journal import come_up, written
from signbench.keys import end_keys, press, read_keys
from signbench.learning import learnt, net_of
from signbench.looker import holds
from signbench.papers import cutting_paper, keys_paper
from signbench.road import Far, Near
from signbench.wishes import fighting, thinned
from tests.plain_bench import FEW, BenchChance, told_of
from tests.test_cuttings import in_order
from tests.test_fields import START
from tests.test_wishes import fight_plainly, is_kept
from tests.things import Numbers, same_kinds


def learnt_plainly(commits):
    """The plain count of pieces, by the sounds for which they stand and their signs."""
    found = {}
    for sounds, cutting, wished in commits:
        ends = [piece[0] for piece in cutting]
        for begin, piece in zip([0] + ends, cutting):
            name = (sounds[begin:piece[0]], piece[1])
            found[name] = found.get(name, 0) + 1
    return found


class Follower:
    """What comes of the deeds on the way to a node, kept beside the bench by what the bench told of each."""

    def __init__(self, commits):
        self.came = []
        self.commits = list(commits)
        self.learns = True
        self.number = 0
        # The keys pressed since none waited last, and what they told; None where a waiting key was taken back.
        self.pressed = ([], [], [])

    def twin(self):
        other = Follower(self.commits)
        other.came, other.learns, other.number = list(self.came), self.learns, self.number
        other.pressed = self.pressed and tuple(list(part) for part in self.pressed)
        return other


class Whole(unittest.TestCase):
    BENCHES = 60
    STEPS = 50

    def test_rows_of_deeds_at_large(self):
        numbers = Numbers(211)
        chance = BenchChance(numbers)
        for each in range(self.BENCHES):
            self.parts = chance.makings()
            bench = Bench(*self.parts)
            nodes = [Follower(self.parts[4])]
            for step in range(self.STEPS):
                if numbers.below(7) == 0:
                    self.lead(bench, chance.one(["undo", "again", "go"]), numbers.below(len(nodes)))
                else:
                    self.do(bench, chance.deed(bench), nodes)
                self.look(bench, nodes[bench.here()])
            self.send_far(bench, numbers)

    def lead(self, bench, name, number):
        try:
            getattr(bench, name)(*[number] if name == "go" else [])
        except BenchError:
            pass

    def do(self, bench, deed, nodes):
        """Does a deed and follows what is told of it; what is refused changes nothing."""
        follower, before = nodes[bench.here()].twin(), told_of(bench)
        try:
            told = bench.do(deed)
        except BenchError as refusal:
            self.assertTrue(same_kinds(told_of(bench), before))
            self.look_at_fight(before[3], deed, refusal)
            return
        self.follow_sounds(bench, follower, deed, told, before)
        if deed[0] == "commit" and follower.learns:
            sounds = tuple(sound for number, sound in before[1])
            follower.commits.append((sounds, tuple(before[4]), before[3] != []))
        if deed[0] in ("close", "open"):
            follower.learns = deed[0] == "open"
        if (bench.marked(), bench.wishes()) != (before[1], before[3]):
            follower.number = 0
        if deed[0] == "shown":
            follower.number = deed[1]
        self.assertEqual(bench.here(), len(nodes))
        nodes.append(follower)

    def look_at_fight(self, wishes, deed, refusal):
        """A wish is told to fight just where it does, with the first that stands."""
        if isinstance(refusal, Fight):
            self.assertEqual(refusal.other, [wish for wish in wishes if fight_plainly(wish, deed[1])][0])

    def follow_sounds(self, bench, follower, deed, told, before):
        if deed[0] in ("key", "end"):
            follower.came += told[0]
            self.follow_keys(bench, follower, deed, told)
        elif deed[0] == "read back":
            follower.came += [sound for number, sound in bench.marked()]
        elif before[2] != bench.waiting():
            follower.pressed = ([], [], []) if bench.waiting() == () else None

    def follow_keys(self, bench, follower, deed, told):
        """Keys pressed one by one make the sounds that they make read at once."""
        if follower.pressed is not None:
            keys, sounds, lost = follower.pressed
            keys += deed[1:]
            sounds += told[0]
            lost += told[1]
            if bench.waiting() == ():
                self.assertEqual(read_keys(self.parts[0], keys), (sounds, lost))
            else:
                ended, gone = end_keys(self.parts[0], bench.waiting())
                self.assertEqual(read_keys(self.parts[0], keys), (sounds + ended, lost + gone))
        if bench.waiting() == ():
            follower.pressed = ([], [], [])

    def look(self, bench, follower):
        """Each part of the promise, where the bench stands now."""
        self.look_at_sounds(bench, follower)
        self.look_at_shown(bench, follower)
        self.look_at_field(bench)
        self.look_at_learnt(bench, follower)

    def look_at_sounds(self, bench, follower):
        ledger = bench.ledger()
        self.assertEqual([number for number, sound, place in ledger], list(range(1, len(ledger) + 1)))
        self.assertEqual([sound for number, sound, place in ledger], follower.came)
        self.assertLessEqual({place for number, sound, place in ledger}, {"marked", "committed", "back"})
        self.assertEqual([each[:2] for each in ledger if each[2] == "marked"], bench.marked())

    def look_at_shown(self, bench, follower):
        """Shown is the one of its number of all that keep the wishes, the first with prices that bar a cheaper one."""
        sounds, wishes, shown = [sound for number, sound in bench.marked()], bench.wishes(), bench.shown()
        self.assertIsNone(fighting(wishes))
        if not sounds:
            self.assertEqual(shown, [])
            return
        net, rates = net_of(self.parts[1], bench.all_commits(), sounds), self.parts[2]
        self.assertGreater(how_many(thinned(net, wishes)), 0)
        if follower.number == 0:
            told = prices(thinned(net, wishes), rates)
            self.assertTrue(holds(("cutting", net, rates, wishes, told, shown)))
            self.assertTrue(same_kinds(cutting_paper(net, rates, wishes)[5], shown))
        if len(sounds) <= FEW:
            known = [each for cost, each in in_order(net, rates) if all(is_kept(wish, each) for wish in wishes)]
            self.assertEqual(shown, known[follower.number])

    def look_at_field(self, bench):
        """The field is what its deeds make of it one by one; what is marked are the signs of the shown cutting."""
        standing = START
        for deed in bench.field_deeds():
            standing = after(self.parts[3], standing, deed)
        self.assertEqual(bench.field_now(), standing)
        signs, begin, end, marked = standing
        self.assertEqual(
            signs[slice(*marked)] if marked else (), tuple(sign for piece in bench.shown() for sign in piece[1]),
        )

    def look_at_learnt(self, bench, follower):
        commits = bench.all_commits()
        self.assertTrue(same_kinds(commits, follower.commits))
        told = {(sounds, signs): many for sounds, signs, many, last in learnt(commits)}
        self.assertEqual(told, learnt_plainly(follower.commits))
        text = written(commits)
        for cut in (0, len(text) // 3, len(text) // 2, len(text) - 1, len(text)):
            torn = text[:max(cut, 0)]
            self.assertEqual(come_up(torn), follower.commits[:torn.count(";")])

    def send_far(self, bench, numbers):
        """A far field to which the field's deeds are sent comes to the same standing, whatever goes astray."""
        near, far, letters, to_send = Near(), Far(self.parts[3]), [], bench.field_deeds()
        many = len(to_send)
        while to_send or near.letters():
            if to_send and len(near.letters()) < 8:
                letters.append(near.send(to_send.pop(0)))
            letters += near.letters()[:numbers.below(4)]
            letter = letters.pop(numbers.below(len(letters))) if letters else None
            for answer in far.hear(letter) if numbers.below(3) else []:
                if numbers.below(3):
                    near.hear(answer)
        self.assertEqual(near.answers(), [(number, "done") for number in range(1, many + 1)])
        self.assertEqual(far.standing_now(), bench.field_now())


class KeysOneByOne(unittest.TestCase):
    def test_pressed_and_read_at_once(self):
        numbers = Numbers(223)
        for each in range(300):
            table = numbers.table(numbers.below(12), 4, 4)
            keys = list(numbers.row(0, 12, 6))
            bench = Bench(table, numbers.book(5, 4, 5), numbers.rates(3), (60, ()), [])
            sounds, lost = read_keys(table, keys)
            if len(sounds) > 24:
                continue
            told = [bench.do(("key", key)) for key in keys]
            if bench.waiting():
                told.append(bench.do(("end",)))
            self.assertEqual([sound for made, gone in told for sound in made], sounds)
            self.assertEqual([key for made, gone in told for key in gone], lost)
            self.assertEqual(bench.marked(), list(enumerate(sounds, 1)))

    def test_the_fewest_keys_make_the_sounds(self):
        numbers = Numbers(227)
        made = 0
        for each in range(200):
            table = numbers.table(1 + numbers.below(9), 3, 2)
            sounds = list(numbers.row(0, 5, 3))
            paper = keys_paper(table, sounds)
            self.assertTrue(holds(paper))
            if paper[3] is None:
                continue
            made += 1
            waiting, told = (), []
            for key in paper[3]:
                more, lost, waiting = press(table, waiting, key)
                self.assertEqual(lost, [])
                told += more
            self.assertEqual((told + end_keys(table, waiting)[0], end_keys(table, waiting)[1]), (sounds, []))
        self.assertGreater(made, 20)


class ShownOneByOne(unittest.TestCase):
    def test_the_kth_shown_is_the_kth_of_all_each_once(self):
        numbers = Numbers(229)
        chance = BenchChance(numbers)
        for each in range(60):
            parts = chance.makings()
            parts = ([((k,), (k,), ()) for k in range(3)],) + parts[1:]
            bench = Bench(*parts)
            for key in numbers.row(1, 4, 3):
                bench.do(("key", key))
            for other in range(numbers.below(3)):
                try:
                    bench.do(("wish", chance.wish(bench)))
                except BenchError:
                    pass
            net = net_of(parts[1], parts[4], [sound for number, sound in bench.marked()])
            known = [each for cost, each in in_order(net, parts[2])]
            known = [each for each in known if all(is_kept(wish, each) for wish in bench.wishes())]
            for number in range(20):
                if number < len(known):
                    bench.do(("shown", number))
                    self.assertEqual(bench.shown(), known[number])
                else:
                    with self.assertRaises(NoCutting):
                        bench.do(("shown", number))
            self.assertGreater(len(known), 0)


if __name__ == "__main__":
    unittest.main()
