"""A second reading of what the document says of the bench, and deeds by chance."""

import copy

from signbench.choices import choices, guesses, read_back
from signbench.cuttings import first_cuttings
from signbench.errors import (
    Barred, Fight, Marked, NoChoice, NoCutting, NoDeed, NoMark, NoNode, NoPlace, NoTurn, NoWish, Nothing, TooLong,
    TooMany, Waits,
)
from signbench.keys import end_keys, press
from signbench.learning import net_of
from signbench.wishes import thinned
from tests.test_cuttings import in_order
from tests.test_fields import START, after_plainly, is_plainly_deed
from tests.test_wishes import fight_plainly, is_kept, is_plainly_wish
from tests.things import is_number_of, same_kinds, wrong_things

# As they stand in the brackets of the interface.
ORDER = [
    NoDeed, Waits, Nothing, NoWish, NoChoice, Fight, TooMany, NoCutting, NoTurn, NoPlace, NoMark, Marked, Barred,
    TooLong,
]
BARE = ("end", "back", "commit", "give up", "close", "open", "read back")
# So many sounds have few enough cuttings to go through all of them.
FEW = 5


def told_of(bench):
    """All that a bench tells."""
    return (
        bench.here(), bench.marked(), bench.waiting(), bench.wishes(), bench.shown(), bench.field_now(),
        bench.learns(), bench.all_commits(), bench.ledger(), bench.field_deeds(),
    )


def questions_of(bench):
    """What is told of choices and guesses."""
    many = len(bench.marked())
    stretches = [(begin, end) for end in range(many + 1) for begin in range(end)]
    return [bench.choices_of(*each) for each in stretches], [bench.guesses_of(many) for many in (0, 1, 3, 20)]


def is_plainly_bench_deed(thing):
    """The words of the document once more."""
    if type(thing) is not tuple or not thing or type(thing[0]) is not str:
        return False
    word, rest = thing[0], thing[1:]
    if word in ("key", "shown"):
        return len(rest) == 1 and is_number_of(rest[0], 0, 25 if word == "key" else 19)
    if word in ("wish", "lift"):
        return len(rest) == 1
    if word in ("choose", "put", "out"):
        return is_plainly_deed(thing)
    return word in BARE and not rest


class PlainBench:
    """A bench by dicts and lists: each deed gathers all refusals that are due, and the first one is taken."""

    def __init__(self, table, book, rates, field, commits):
        self.table, self.book, self.rates, self.field = list(table), book.twin(), rates, field
        self.nodes = [{
            "came": [], "waiting": (), "wishes": [], "number": 0, "standing": START, "learns": True,
            "commits": list(commits),
        }]
        self.above = [None]
        self.stood = [0]
        self.log = []

    def now(self):
        return self.nodes[self.stood[-1]]

    def marked(self, node):
        return [(number, sound) for number, sound, place in node["came"] if place == "marked"]

    def sounds(self, node):
        return [sound for number, sound in self.marked(node)]

    def all_in_order(self, node, many):
        """The first cuttings that keep all wishes: of few sounds all are gone through."""
        sounds = self.sounds(node)
        net = net_of(self.book, node["commits"], sounds)
        if len(sounds) > FEW:
            return [each for cost, each in first_cuttings(thinned(net, node["wishes"]), self.rates, many)]
        found = [each for cost, each in in_order(net, self.rates)]
        return [each for each in found if all(is_kept(wish, each) for wish in node["wishes"])][:many]

    def shown(self, node):
        return self.all_in_order(node, node["number"] + 1)[node["number"]] if self.sounds(node) else []

    def shown_signs(self, node):
        return tuple(sign for piece in self.shown(node) for sign in piece[1])

    def do(self, deed):
        """What is told; or an error class, and the wish that the new one fights with."""
        if not is_plainly_bench_deed(deed):
            return NoDeed, None
        before, node = self.now(), copy.deepcopy(self.now())
        due = {}
        told = getattr(self, "do_" + deed[0].replace(" ", "_"))(before, node, due, *deed[1:])
        sent = None
        if not due:
            if (self.sounds(before), before["wishes"]) != (self.sounds(node), node["wishes"]):
                node["number"] = 0
            sent = self.field_deed(before, node, deed)
            standing = before["standing"] if sent is None else after_plainly(self.field, before["standing"], sent)
            if not isinstance(standing, tuple):
                due[standing] = None
        if due:
            error = min(due, key=ORDER.index)
            return error, due[error]
        node["standing"] = standing
        self.log += [] if sent is None else [sent]
        self.above.append(self.stood[-1])
        self.nodes.append(node)
        self.stood.append(len(self.nodes) - 1)
        return None, told

    def field_deed(self, before, node, deed):
        if deed[0] == "commit":
            return ("commit", self.shown_signs(before))
        if deed[0] in ("choose", "put", "out"):
            return deed
        signs, begin, end, marked = before["standing"]
        ahead, then = signs[slice(*marked)] if marked else (), self.shown_signs(node)
        return None if ahead == then else ("mark", then) if then else ("unmark",)

    def come(self, node, due, sounds):
        if len(self.sounds(node)) + len(sounds) > 24:
            due[TooMany] = None
        for sound in sounds:
            node["came"].append((len(node["came"]) + 1, sound, "marked"))

    def place(self, node, numbers, place):
        node["came"] = [each[:2] + (place,) if each[0] in numbers else each for each in node["came"]]

    def do_key(self, before, node, due, key):
        sounds, lost, node["waiting"] = press(self.table, before["waiting"], key)
        self.come(node, due, sounds)
        return tuple(sounds), tuple(lost)

    def do_end(self, before, node, due):
        if not before["waiting"]:
            due[Nothing] = None
        sounds, lost = end_keys(self.table, before["waiting"])
        node["waiting"] = ()
        self.come(node, due, sounds)
        return tuple(sounds), tuple(lost)

    def do_back(self, before, node, due):
        if before["waiting"]:
            node["waiting"] = before["waiting"][:-1]
            return "key", before["waiting"][-1]
        if not self.marked(before):
            due[Nothing] = None
            return None
        number = self.marked(before)[-1][0]
        self.place(node, [number], "back")
        left = len(self.marked(node))
        node["wishes"] = [wish for wish in before["wishes"] if is_plainly_wish(left, wish)]
        return "sound", number

    def do_wish(self, before, node, due, wish):
        sounds = self.sounds(before)
        if not is_plainly_wish(len(sounds), wish):
            due[NoWish] = None
            return
        if wish in before["wishes"]:
            return
        if wish[0] == "held" and wish[3] not in choices(self.book, before["commits"], tuple(sounds[wish[1]:wish[2]])):
            due[NoChoice] = None
        fighting = [other for other in before["wishes"] if fight_plainly(other, wish)]
        if fighting:
            due[Fight] = fighting[0]
        if len(before["wishes"]) == 12:
            due[TooMany] = None
        node["wishes"].append(wish)

    def do_lift(self, before, node, due, wish):
        places = [at for at, other in enumerate(before["wishes"]) if same_kinds(wish, other)]
        if not places:
            due[Nothing] = None
        else:
            node["wishes"].pop(places[0])

    def do_shown(self, before, node, due, number):
        if not self.sounds(before) or len(self.all_in_order(before, number + 1)) <= number:
            due[NoCutting] = None
        node["number"] = number

    def do_commit(self, before, node, due):
        if before["waiting"]:
            due[Waits] = None
        if not self.sounds(before):
            due[Nothing] = None
        if before["learns"]:
            node["commits"].append((tuple(self.sounds(before)), tuple(self.shown(before)), before["wishes"] != []))
        self.place(node, [number for number, sound in self.marked(before)], "committed")
        node["wishes"] = []

    def do_give_up(self, before, node, due):
        if not before["waiting"] and not self.sounds(before):
            due[Nothing] = None
        self.place(node, [number for number, sound in self.marked(before)], "back")
        node["waiting"], node["wishes"] = (), []

    def do_close(self, before, node, due):
        if not before["learns"]:
            due[Nothing] = None
        node["learns"] = False

    def do_open(self, before, node, due):
        if before["learns"]:
            due[Nothing] = None
        node["learns"] = True

    def do_choose(self, before, node, due, *rest):
        return None

    do_put = do_out = do_choose

    def do_read_back(self, before, node, due):
        if before["waiting"] or self.sounds(before):
            due[Waits] = None
        signs, begin, end, marked = before["standing"]
        chosen = signs[begin:end]
        sounds = read_back(self.book, before["commits"], self.rates, chosen) if 1 <= len(chosen) <= 24 else None
        if sounds is None:
            due[NoTurn] = None
        else:
            self.come(node, {}, sounds)

    def way(self, number):
        return [] if number == 0 else self.way(self.above[number]) + [number]

    def lead(self, name, number):
        """Undo, again or go: None, or the error."""
        here = self.stood[-1]
        depth = len(self.way(here))
        if name == "undo":
            found = [self.above[here]] if here else []
        elif name == "again":
            ways = [self.way(each) for each in self.stood]
            found = [way[depth] for way in ways if len(way) > depth and ([0] + way)[depth] == here][-1:]
        else:
            found = [number] if 0 <= number < len(self.nodes) else []
        if not found:
            return NoNode
        self.stood.append(found[0])
        self.log.append(("stand", self.now()["standing"]))
        return None

    def told(self):
        node = self.now()
        return (
            self.stood[-1], self.marked(node), node["waiting"], list(node["wishes"]), self.shown(node),
            node["standing"], node["learns"], list(node["commits"]), list(node["came"]), list(self.log),
        )

    def questions(self):
        node = self.now()
        sounds = tuple(self.sounds(node))
        stretches = [(begin, end) for end in range(len(sounds) + 1) for begin in range(end)]
        return (
            [choices(self.book, node["commits"], sounds[begin:end]) for begin, end in stretches],
            [guesses(self.book, node["commits"], sounds, many) for many in (0, 1, 3, 20)],
        )


class BenchChance:
    """Benches and deeds by chance, small ones, so that all that may happen comes often."""

    def __init__(self, numbers):
        self.numbers = numbers

    def one(self, things):
        return things[self.numbers.below(len(things))]

    def makings(self):
        """What a bench is made of."""
        numbers = self.numbers
        table = [((k,), (k,), ()) for k in range(3) if numbers.below(10)]
        table += [row for row in numbers.table(numbers.below(7), 4, 2) if len(row[0]) > 1]
        commits = [numbers.commit(4, 3, 5, 9) for each in range(numbers.below(4))]
        field = (self.one([0, 5, 20, 60, 60]), tuple(sign for sign in numbers.row(0, 2, 5) if numbers.below(2)))
        return table, numbers.book(numbers.below(15), 3, 5), numbers.rates(1 + 300 * numbers.below(2)), field, commits

    def wish(self, bench):
        """A wish, for as many places as are marked or a few more, or something else."""
        numbers, many = self.numbers, len(bench.marked()) + numbers_of_more(self.numbers)
        begin = numbers.below(many + 1)
        end = begin + 1 + numbers.below(max(1, many - begin))
        signs = numbers.row(1, 2, 5)
        if end <= len(bench.marked()) and numbers.below(4):
            signs = self.one(bench.choices_of(begin, end))
        return self.one([
            ("border", 1 + numbers.below(many + 1)), ("joined", 1 + numbers.below(many + 1)), ("span", begin, end),
            ("held", begin, end, signs), ("held", begin, end, signs), ("border", True), ["border", 1], None,
        ][:5 + 3 * (numbers.below(6) == 0)])

    def deed(self, bench):
        """A deed, mostly one that may be done where the bench stands."""
        numbers = self.numbers
        if numbers.below(30) == 0:
            return self.one(wrong_things() + [("key",), ("mark", (1,)), ("stand", START), ("commit", (1,)), ("undo",)])
        if numbers.below(8) == 0:
            return self.one([self.choose(bench), self.put(bench), ("out", self.place(bench), 1 + numbers.below(2))])
        if numbers.below(8) == 0:
            return (self.one(BARE),)
        if bench.waiting() or not bench.field_now()[0] or numbers.below(2):
            return self.one([("key", numbers.below(5 + numbers.below(3)))] * 8 + [("end",), ("back",)])
        if bench.marked():
            return self.one([
                ("wish", self.wish(bench)), ("wish", self.wish(bench)), ("wish", self.wish(bench)), ("commit",),
                ("lift", self.one(bench.wishes() + [self.wish(bench)])), ("shown", numbers.below(self.one([3, 3, 20]))),
            ])
        if bench.field_now()[1] < bench.field_now()[2]:
            return ("read back",)
        return self.choose(bench)

    def place(self, bench):
        return self.numbers.below(len(bench.field_now()[0]) + self.one([1, 1, 1, 2]))

    def choose(self, bench):
        begin, end = self.place(bench), self.place(bench)
        return ("choose", min(begin, end), max(begin, end))

    def put(self, bench):
        return ("put", self.place(bench), self.numbers.row(1, 3, self.one([5, 5, 5, 1003])))


def numbers_of_more(numbers):
    return numbers.below(2) if numbers.below(5) == 0 else 0
