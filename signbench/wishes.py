"""Wishes of the hand: which of them fight, a net thinned by them, a piece made longer or shorter."""

from signbench.errors import NoPlace
from signbench.kinds import is_whole
from signbench.nets import is_piece_signs

MOST_WISHES = 12


def is_wish(n, thing):
    """Whether a thing is a wish for n places."""
    if not isinstance(thing, tuple) or not thing:
        return False
    if thing[0] == "border" or thing[0] == "joined":
        return len(thing) == 2 and is_whole(thing[1], 1, n - 1)
    if thing[0] == "span":
        return len(thing) == 3 and is_stretch(thing[1], thing[2], n)
    if thing[0] == "held":
        return len(thing) == 4 and is_stretch(thing[1], thing[2], n) and is_piece_signs(thing[3])
    return False


def is_stretch(begin, end, n):
    """Whether two things are the begin and the end of a stretch of n places."""
    return is_whole(begin, 0, n - 1) and is_whole(end, begin + 1, n)


def fighting(wishes):
    """The places of the first two wishes that fight, the lesser one first; None where no two fight."""
    for later, wish in enumerate(wishes):
        for earlier, other in enumerate(wishes[:later]):
            if fight(other, wish):
                return (earlier, later)
    return None


def fight(wish, other):
    """Whether two wishes fight."""
    if wish[0] == "held" and other[0] == "held" and wish[1:3] == other[1:3] and wish[3] != other[3]:
        return True
    return wants_barred(wish, other) or wants_barred(other, wish)


def wants_barred(wish, other):
    """Whether the wish wants a place that the other one bars."""
    barred = places_barred(other)
    return any([place in barred for place in places_wanted(wish)])


def places_wanted(wish):
    """The places where, by this wish, a piece is to end or to begin."""
    if wish[0] == "border":
        return [wish[1]]
    if wish[0] == "joined":
        return []
    return [wish[1], wish[2]]


def places_barred(wish):
    """The places where, by this wish, no piece is to end or to begin."""
    if wish[0] == "border":
        return []
    if wish[0] == "joined":
        return [wish[1]]
    return list(range(wish[1] + 1, wish[2]))


def thinned(net, wishes):
    """The net of those pieces of a net that may stand in a cutting which keeps all wishes."""
    return [
        [piece for piece in pieces if all([keeps(wish, begin, piece) for wish in wishes])]
        for begin, pieces in enumerate(net)
    ]


def keeps(wish, begin, piece):
    """Whether a piece that begins there may stand where the wish is kept."""
    end = piece[0]
    if wish[0] == "border":
        return not begin < wish[1] < end
    if wish[0] == "joined":
        return begin != wish[1] and end != wish[1]
    low, high = wish[1], wish[2]
    if end <= low or high <= begin:
        return True
    # What isn't wholly ahead or behind leads over low or high, or lies between them.
    if begin != low or end != high:
        return False
    return wish[0] == "span" or piece[1] == wish[3]


def longer(cutting, number):
    """The wish that a piece of a cutting be one place longer."""
    begin, end = stretch_of(cutting, number)
    if end == cutting[-1][0]:
        raise NoPlace("the piece ends where the last one does")
    return ("span", begin, end + 1)


def shorter(cutting, number):
    """The wish that a piece of a cutting be one place shorter."""
    begin, end = stretch_of(cutting, number)
    if end == begin + 1:
        raise NoPlace("the piece has one place alone")
    return ("span", begin, end - 1)


def stretch_of(cutting, number):
    """Where a piece of a cutting begins and ends."""
    if not 0 <= number < len(cutting):
        raise NoPlace("the cutting has no such piece")
    if number == 0:
        return (0, cutting[0][0])
    return (cutting[number - 1][0], cutting[number][0])
