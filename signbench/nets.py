"""Nets of pieces over places, and rates from kind to kind."""

from signbench.kinds import LAST_SIGN, is_number, is_row, is_whole

MOST_PLACES = 24
MOST_PIECES = 150
MOST_PIECE_SIGNS = 24
LAST_PIECE_KIND = 8
LAST_PIECE_COST = 99999
# The kind that stands for the beginning, and for the end, in rates and prices.
END_KIND = 9
LAST_RATE = 999


def is_net(thing):
    """Whether a thing is a net."""
    if not isinstance(thing, list) or len(thing) > MOST_PLACES:
        return False
    return all([are_pieces(pieces, place, len(thing)) for place, pieces in enumerate(thing)])


def are_pieces(thing, begin, length):
    """Whether a thing is the list of the pieces that begin at one place of a net of this length."""
    if not isinstance(thing, list) or len(thing) > MOST_PIECES:
        return False
    if not all([is_piece(piece, begin, length) for piece in thing]):
        return False
    # Rising without the costs: so they are sorted, and no two are alike but for their costs.
    return all([piece[:3] < following[:3] for piece, following in zip(thing, thing[1:])])


def is_piece(thing, begin, length):
    """Whether a thing is a piece that begins at a place of a net of this length."""
    if not has_piece_kinds(thing):
        return False
    end, signs, kind, cost = thing
    if not is_whole(end, begin + 1, length) or not is_piece_signs(signs):
        return False
    return is_whole(kind, 0, LAST_PIECE_KIND) and is_whole(cost, 0, LAST_PIECE_COST)


def is_piece_signs(thing):
    """Whether a thing is a tuple of signs as pieces have them."""
    return is_row(thing, 1, MOST_PIECE_SIGNS, LAST_SIGN)


def has_piece_kinds(thing):
    """Whether a thing is of the kinds of which a piece is, whatever its numbers."""
    if not isinstance(thing, tuple) or len(thing) != 4 or not isinstance(thing[1], tuple):
        return False
    return all([is_number(part) for part in (thing[0], thing[2], thing[3]) + thing[1]])


def is_way(pieces, length):
    """Whether all things of a list or tuple are pieces, each from where the one ahead ends, from 0 to the length."""
    at = 0
    for piece in pieces:
        if not is_piece(piece, at, length):
            return False
        at = piece[0]
    return at == length


def is_rates(thing):
    """Whether a thing is rates."""
    if not isinstance(thing, tuple) or len(thing) != END_KIND + 1:
        return False
    return all([is_row(row, END_KIND + 1, END_KIND + 1, LAST_RATE) for row in thing])
