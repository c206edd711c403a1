"""The bench: keys pressed, signs shown, wished, committed and learnt, along a tree of deeds."""

from signbench.choices import choices, guesses, read_back
from signbench.errors import Fight, NoChoice, NoCutting, NoDeed, NoTurn, NoWish, Nothing, TooMany, Waits
from signbench.fields import after, is_deed
from signbench.keys import LAST_KEY, end_keys, press
from signbench.kinds import is_whole
from signbench.learning import signs_of
from signbench.nets import MOST_PLACES
from signbench.standings import (
    Ground, Standing, leave_all, marked_sounds, move, show, sounds_come, sounds_of, twin_of,
)
from signbench.tree import Tree
from signbench.wishes import MOST_WISHES, fight, is_wish

LAST_SHOWN = 19


def do_key(ground, standing, deed):
    """A key is pressed behind those that wait."""
    sounds, lost, waiting = press(ground.table, standing.pending, deed[1])
    standing.pending = waiting
    sounds_come(ground, standing, sounds)
    return (tuple(sounds), tuple(lost))


def do_end(ground, standing, deed):
    """The waiting keys are ended."""
    if not standing.pending:
        raise Nothing("no key waits")
    sounds, lost = end_keys(ground.table, standing.pending)
    standing.pending = ()
    sounds_come(ground, standing, sounds)
    return (tuple(sounds), tuple(lost))


def do_back(ground, standing, deed):
    """The last waiting key goes, or else the last marked sound is taken back."""
    if standing.pending:
        key = standing.pending[-1]
        standing.pending = standing.pending[:-1]
        return ("key", key)
    marked = marked_sounds(standing)
    if not marked:
        raise Nothing("no key waits and no sound is marked")
    number = marked[-1][0]
    move(standing, [number], "back")
    standing.wanted = tuple([wish for wish in standing.wanted if is_wish(len(marked) - 1, wish)])
    show(ground, standing, 0)
    return ("sound", number)


def do_wish(ground, standing, deed):
    """A wish comes to stand behind the others."""
    wish = deed[1]
    refuse_wish(ground, standing, wish)
    if wish not in standing.wanted:
        if len(standing.wanted) >= MOST_WISHES:
            raise TooMany("so many wishes stand already")
        standing.wanted = standing.wanted + (wish,)
        show(ground, standing, 0)


def refuse_wish(ground, standing, wish):
    """Refuses what is no wish, what can't be held, and what fights with a wish that stands."""
    sounds = sounds_of(standing)
    if not is_wish(len(sounds), wish):
        raise NoWish("this is no wish for so many sounds")
    if wish[0] == "held" and wish[3] not in choices(ground.book, standing.commits, sounds[wish[1]:wish[2]]):
        raise NoChoice("the signs are no choice of these sounds")
    for other in standing.wanted:
        if fight(other, wish):
            raise Fight(other)


def do_lift(ground, standing, deed):
    """A wish that stands is lifted."""
    wish = deed[1]
    # Whether it is a wish is asked first: one with True in the place of 1 is equal to one that stands.
    if not is_wish(len(sounds_of(standing)), wish) or wish not in standing.wanted:
        raise Nothing("no such wish stands")
    standing.wanted = tuple([other for other in standing.wanted if other != wish])
    show(ground, standing, 0)


def do_shown(ground, standing, deed):
    """Another cutting is shown."""
    if not sounds_of(standing):
        raise NoCutting("no sound is marked")
    show(ground, standing, deed[1])


def do_commit(ground, standing, deed):
    """The marked sounds are committed, and learnt where it learns."""
    if standing.pending:
        raise Waits("keys wait")
    sounds = sounds_of(standing)
    if not sounds:
        raise Nothing("no sound is marked")
    if standing.learning:
        commit = (sounds, standing.cutting, len(standing.wanted) > 0)
        standing.commits = standing.commits + (commit,)
    leave_all(standing, "committed")


def do_give_up(ground, standing, deed):
    """The marked sounds are taken back, and the waiting keys go."""
    if not standing.pending and not sounds_of(standing):
        raise Nothing("no key waits and no sound is marked")
    standing.pending = ()
    leave_all(standing, "back")


def do_close(ground, standing, deed):
    """From now on it doesn't learn."""
    if not standing.learning:
        raise Nothing("it doesn't learn")
    standing.learning = False


def do_open(ground, standing, deed):
    """From now on it learns."""
    if standing.learning:
        raise Nothing("it learns")
    standing.learning = True


def do_in_field(ground, standing, deed):
    """A deed of the field, which changes nothing else."""
    return None


def do_read_back(ground, standing, deed):
    """The sounds of the chosen signs come; when they are marked, they take these signs' place."""
    if standing.pending or sounds_of(standing):
        raise Waits("keys wait, or sounds are marked")
    signs, begin, end, stretch = standing.text
    if not 1 <= end - begin <= MOST_PLACES:
        raise NoTurn("no sign is chosen, or too many are")
    sounds = read_back(ground.book, standing.commits, ground.rates, signs[begin:end])
    if sounds is None:
        raise NoTurn("the chosen signs can't be read back")
    sounds_come(ground, standing, sounds)


DEEDS = {
    "key": do_key, "end": do_end, "back": do_back, "wish": do_wish, "lift": do_lift, "shown": do_shown,
    "commit": do_commit, "give up": do_give_up, "close": do_close, "open": do_open, "choose": do_in_field,
    "put": do_in_field, "out": do_in_field, "read back": do_read_back,
}


def is_bench_deed(thing):
    """Whether a thing is a deed of a bench."""
    if not isinstance(thing, tuple) or not thing or not isinstance(thing[0], str) or thing[0] not in DEEDS:
        return False
    word = thing[0]
    if is_field_word(word):
        return is_deed(thing)
    if word == "key":
        return len(thing) == 2 and is_whole(thing[1], 0, LAST_KEY)
    if word == "shown":
        return len(thing) == 2 and is_whole(thing[1], 0, LAST_SHOWN)
    return len(thing) == (2 if word == "wish" or word == "lift" else 1)


def is_field_word(word):
    """Whether a bench's deed that begins with this word is a deed of its field."""
    return word in ("choose", "put", "out")


def field_deed(ahead, now, deed):
    """The deed that a bench's deed, which led from one standing to another, is for its field; None where it is none."""
    if deed[0] == "commit":
        return ("commit", signs_of(ahead.cutting))
    if is_field_word(deed[0]):
        return deed
    signs = signs_of(now.cutting)
    if signs == signs_of(ahead.cutting):
        return None
    return ("mark", signs) if signs else ("unmark",)


class Bench:
    """A table, a book, rates, a field and what was learnt, with all that was done to them."""

    def __init__(self, table, book, rates, field, commits):
        self.ground = Ground(table, book, rates, field)
        self.tree = Tree()
        # By each node of the tree what the bench is there.
        self.nodes = [Standing(commits)]
        self.sent = []

    def current(self):
        """What the bench is where one stands."""
        return self.nodes[self.tree.here()]

    def do(self, deed):
        """Does a deed, any thing; what it tells."""
        if not is_bench_deed(deed):
            raise NoDeed("this is no deed of a bench")
        ahead = self.current()
        standing = twin_of(ahead)
        doing = DEEDS[deed[0]]
        told = doing(self.ground, standing, deed)
        coming = field_deed(ahead, standing, deed)
        if coming is not None:
            standing.text = after(self.ground.field, standing.text, coming)
            self.sent.append(coming)
        self.tree.do(deed)
        self.nodes.append(standing)
        return told

    def undo(self):
        """Leads to the node above."""
        return self.arrive(self.tree.undo())

    def again(self):
        """Leads to the node straight under it at which, or beneath which, one stood last."""
        return self.arrive(self.tree.again())

    def go(self, number):
        """Leads to any node."""
        return self.arrive(self.tree.go(number))

    def arrive(self, number):
        """The field comes to stand as it did at the node to which the tree led."""
        self.sent.append(("stand", self.current().text))
        return number

    def here(self):
        """The number of the node where one stands."""
        return self.tree.here()

    def marked(self):
        """The (number, sound) of all marked sounds."""
        return marked_sounds(self.current())

    def waiting(self):
        """The waiting keys."""
        return self.current().pending

    def wishes(self):
        """The wishes that stand."""
        return list(self.current().wanted)

    def shown(self):
        """The shown cutting."""
        return list(self.current().cutting)

    def field_now(self):
        """The standing of the field."""
        return self.current().text

    def learns(self):
        """Whether it learns."""
        return self.current().learning

    def all_commits(self):
        """All commits, those learnt ahead first."""
        return list(self.current().commits)

    def ledger(self):
        """The (number, sound, place) of each sound that came, by number."""
        return list(self.current().came)

    def choices_of(self, begin, end):
        """The choices of the marked sounds from a place to another one."""
        standing = self.current()
        return choices(self.ground.book, standing.commits, sounds_of(standing)[begin:end])

    def guesses_of(self, many):
        """At most so many words that begin with all marked sounds."""
        standing = self.current()
        return guesses(self.ground.book, standing.commits, sounds_of(standing), many)

    def field_deeds(self):
        """All deeds of the field so far."""
        return list(self.sent)
