"""What a bench is at one node of its tree, and how the parts of it change together."""

from signbench.cuttings import first_cuttings
from signbench.errors import NoCutting, TooMany
from signbench.fields import BEGINNING
from signbench.learning import net_of
from signbench.nets import MOST_PLACES
from signbench.wishes import thinned


class Ground:
    """What a bench is made of and no deed changes."""

    def __init__(self, table, book, rates, field):
        self.table = list(table)
        self.book = book.twin()
        self.rates = rates
        self.field = field


class Standing:
    """What a bench is at one node. Each deed changes a twin of it, so what is refused changes nothing."""

    def __init__(self, commits):
        # (number, sound, place) of each sound that came, by number: so each has one number and one place.
        self.came = ()
        self.pending = ()
        self.wanted = ()
        # The shown cutting itself, not its number: while that stays, nothing is learnt, wished or marked,
        # and the cutting stays too. Its signs are the field's marked stretch.
        self.cutting = ()
        self.text = BEGINNING
        self.learning = True
        self.commits = tuple(commits)


def twin_of(standing):
    """Another standing with the same parts, none of which is ever changed itself."""
    other = Standing(standing.commits)
    other.came = standing.came
    other.pending = standing.pending
    other.wanted = standing.wanted
    other.cutting = standing.cutting
    other.text = standing.text
    other.learning = standing.learning
    return other


def marked_sounds(standing):
    """The (number, sound) of all marked sounds, by number."""
    return [(number, sound) for number, sound, place in standing.came if place == "marked"]


def sounds_of(standing):
    """The tuple of the marked sounds."""
    return tuple([sound for number, sound in marked_sounds(standing)])


def show(ground, standing, number):
    """Shows the cutting of this number of those that keep all wishes."""
    net = net_of(ground.book, standing.commits, list(sounds_of(standing)))
    found = first_cuttings(thinned(net, standing.wanted), ground.rates, number + 1)
    if number >= len(found):
        raise NoCutting("there are fewer cuttings")
    standing.cutting = tuple(found[number][1])


def sounds_come(ground, standing, sounds):
    """Sounds come behind the marked ones, each with the next number."""
    if len(sounds_of(standing)) + len(sounds) > MOST_PLACES:
        raise TooMany("there would be too many marked sounds")
    if sounds:
        first = len(standing.came) + 1
        coming = [(number, sound, "marked") for number, sound in enumerate(sounds, start=first)]
        standing.came = standing.came + tuple(coming)
        show(ground, standing, 0)


def move(standing, numbers, place):
    """The sounds of these numbers come to stand at another place."""
    standing.came = tuple([
        (number, sound, place if number in numbers else before) for number, sound, before in standing.came
    ])


def leave_all(standing, place):
    """All marked sounds come to stand at another place, so that nothing is wished or shown."""
    move(standing, [number for number, sound in marked_sounds(standing)], place)
    standing.wanted = ()
    standing.cutting = ()
