"""Cuttings of a net: their costs, how many they are, the first ones in order, the prices of places."""

from signbench.nets import END_KIND, has_piece_kinds


def is_cutting(net, thing):
    """Whether a thing is a cutting of a net."""
    if not isinstance(thing, list):
        return False
    at = 0
    for piece in thing:
        # The kinds are asked first: a piece with True in the place of 1 is equal to one of the net.
        if at == len(net) or not has_piece_kinds(piece) or piece not in net[at]:
            return False
        at = piece[0]
    return at == len(net)


def cutting_cost(net, rates, cutting):
    """The cost of a cutting of a net."""
    total = 0
    ahead = END_KIND
    for end, signs, kind, cost in cutting:
        total += rates[ahead][kind] + cost
        ahead = kind
    return total + rates[ahead][END_KIND]


def how_many(net):
    """How many cuttings a net has."""
    ways = [1] + [0 for pieces in net]
    for place, pieces in enumerate(net):
        for piece in pieces:
            ways[piece[0]] += ways[place]
    return ways[len(net)]


def first_cuttings(net, rates, many):
    """The first cuttings in order, as many as asked, all where there are fewer: tuples (cost, cutting)."""
    # By each place, and by the kind of the piece that ends there, the first ways on to the end;
    # behind each place no more of them than are asked for can come into a first cutting.
    onward = [[] for pieces in net]
    onward.append(by_kind_ahead({END_KIND: [(0, ())]}, rates, many))
    for place in reversed(range(len(net))):
        onward[place] = by_kind_ahead(ways_from(net[place], onward, many), rates, many)
    return [(cost, list(way)) for cost, way in onward[0][END_KIND]]


def ways_from(pieces, onward, many):
    """By the kind of their first piece the first ways from a place to the end, the rate to this piece left out."""
    found = {}
    for piece in pieces:
        end, signs, kind, cost = piece
        ways = found.setdefault(kind, [])
        ways.extend([(cost + rest_cost, (piece,) + rest) for rest_cost, rest in onward[end][kind]])
    return {kind: sorted(ways)[:many] for kind, ways in found.items()}


def by_kind_ahead(ways, rates, many):
    """For each kind of a piece ahead the first of these ways, the rate to their first piece put in."""
    found = []
    for row in rates:
        options = []
        for kind, known in ways.items():
            options.extend([(row[kind] + cost, way) for cost, way in known])
        found.append(sorted(options)[:many])
    return found


def prices(net, rates):
    """For each place the sorted (kind, price): the least cost of a way there whose last piece is of this kind."""
    least = [{END_KIND: 0}] + [{} for pieces in net]
    for place, pieces in enumerate(net):
        known = sorted(least[place].items())
        for end, signs, kind, cost in pieces:
            for ahead, price in known:
                reached = price + rates[ahead][kind] + cost
                least[end][kind] = min(reached, least[end].get(kind, reached))
    return [sorted(found.items()) for found in least]
