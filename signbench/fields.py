"""Fields, their standings, and the deeds that lead from one standing to another."""

from signbench.errors import Barred, Marked, NoDeed, NoMark, NoPlace, NoStanding, TooLong
from signbench.kinds import LAST_SIGN, is_row, is_whole

LAST_LIMIT = 60
MOST_BARRED = 20
MOST_MARKED = 96
MOST_PUT = 24
MOST_OUT = 60
LAST_PLACE = 999
# The standing with which a field begins.
BEGINNING = ((), 0, 0, None)


def is_field(thing):
    """Whether a thing is a field (limit, barred)."""
    if not isinstance(thing, tuple) or len(thing) != 2:
        return False
    return is_whole(thing[0], 0, LAST_LIMIT) and is_row(thing[1], 0, MOST_BARRED, LAST_SIGN)


def is_standing(field, thing):
    """Whether a thing is a standing (signs, begin, end, marked) of a field."""
    if not isinstance(thing, tuple) or len(thing) != 4:
        return False
    limit, barred = field
    signs, begin, end, marked = thing
    if not is_row(signs, 0, limit + MOST_MARKED, LAST_SIGN):
        return False
    if not is_whole(begin, 0, len(signs)) or not is_whole(end, begin, len(signs)):
        return False
    if marked is not None and not is_marked_stretch(marked, len(signs)):
        return False
    free = free_signs(signs, marked)
    return len(free) <= limit and not has_barred(barred, free)


def is_marked_stretch(thing, many):
    """Whether a thing is a marked stretch (first, behind) of so many signs."""
    if not isinstance(thing, tuple) or len(thing) != 2:
        return False
    first, behind = thing
    return is_whole(first, 0, many) and is_whole(behind, first + 1, min(many, first + MOST_MARKED))


def free_signs(signs, marked):
    """The signs that aren't marked."""
    if marked is None:
        return signs
    return signs[:marked[0]] + signs[marked[1]:]


def has_barred(barred, signs):
    """Whether one of the signs is barred."""
    return any([sign in barred for sign in signs])


def is_deed(thing):
    """Whether a thing is a deed of a field."""
    if not isinstance(thing, tuple) or not thing:
        return False
    word, rest = thing[0], thing[1:]
    if word == "unmark":
        return len(rest) == 0
    if word == "stand":
        return len(rest) == 1
    if word == "mark" or word == "commit":
        return len(rest) == 1 and is_row(rest[0], 1, MOST_MARKED, LAST_SIGN)
    if len(rest) != 2 or not is_whole(rest[0], 0, LAST_PLACE):
        return False
    if word == "choose":
        return is_whole(rest[1], rest[0], LAST_PLACE)
    if word == "put":
        return is_row(rest[1], 1, MOST_PUT, LAST_SIGN)
    return word == "out" and is_whole(rest[1], 1, MOST_OUT)


def after(field, standing, deed):
    """The standing to which a deed leads from a standing of a field."""
    if not is_deed(deed):
        raise NoDeed("this is no deed of a field")
    word = deed[0]
    if word == "mark":
        return after_mark(standing, deed[1])
    if word == "unmark":
        return after_unmark(standing)
    if word == "commit":
        return after_commit(field, standing, deed[1])
    if word == "choose":
        return after_choose(standing, deed[1], deed[2])
    if word == "put":
        return after_put(field, standing, deed[1], deed[2])
    if word == "out":
        return after_out(standing, deed[1], deed[2])
    if not is_standing(field, deed[1]):
        raise NoStanding("this is no standing of the field")
    return deed[1]


def after_mark(standing, coming):
    """The signs come and are marked."""
    signs, first, behind = replaced(standing, coming)
    return (signs, behind, behind, (first, behind))


def after_unmark(standing):
    """The marked stretch goes out."""
    if standing[3] is None:
        raise NoMark("nothing is marked")
    signs, first, behind = replaced(standing, ())
    return (signs, first, first, None)


def after_commit(field, standing, coming):
    """The signs come, and nothing is marked."""
    signs, first, behind = replaced(standing, coming)
    refuse_signs(field, coming, len(signs))
    return (signs, behind, behind, None)


def replaced(standing, coming):
    """All signs, coming ones put for the marked or else the chosen stretch; from where to where these stand."""
    signs, begin, end, marked = standing
    first, behind = (begin, end) if marked is None else marked
    return (signs[:first] + coming + signs[behind:], first, first + len(coming))


def refuse_signs(field, coming, many_free):
    """Refuses signs that are barred, or by which so many that aren't marked would be too many."""
    limit, barred = field
    if has_barred(barred, coming):
        raise Barred("one of the signs is barred")
    if many_free > limit:
        raise TooLong("there would be more signs than the limit")


def after_choose(standing, begin, end):
    """The stretch is chosen."""
    signs, marked = standing[0], standing[3]
    if end > len(signs):
        raise NoPlace("there are not so many signs")
    return (signs, begin, end, marked)


def after_put(field, standing, place, coming):
    """The signs come in at a place, by another hand."""
    signs, begin, end, marked = standing
    if place > len(signs):
        raise NoPlace("there are not so many signs")
    if marked is not None and marked[0] < place < marked[1]:
        raise Marked("the place is within the marked stretch")
    many = len(coming)
    refuse_signs(field, coming, len(free_signs(signs, marked)) + many)
    if marked is not None and marked[0] >= place:
        marked = (marked[0] + many, marked[1] + many)
    grown = signs[:place] + coming + signs[place:]
    return (grown, moved_on(begin, place, many), moved_on(end, place, many), marked)


def moved_on(at, place, many):
    """Where begin or end lies when so many signs have come in at a place."""
    return at + many if at > place else at


def after_out(standing, place, many):
    """So many signs go out from a place on, by another hand."""
    signs, begin, end, marked = standing
    behind = place + many
    if behind > len(signs):
        raise NoPlace("there are not so many signs")
    if marked is not None and marked[0] < behind and place < marked[1]:
        raise Marked("one of the signs is marked")
    if marked is not None:
        # No marked sign goes out, so neither of the two lies between.
        marked = (moved_back(marked[0], place, many), moved_back(marked[1], place, many))
    left = signs[:place] + signs[behind:]
    return (left, moved_back(begin, place, many), moved_back(end, place, many), marked)


def moved_back(at, place, many):
    """Where a place lies when so many signs have gone out from another place on."""
    return at - many if at >= place + many else min(at, place)
