"""The looker: of any thing whether it is a paper that holds, whoever wrote it."""

from signbench.cuttings import cutting_cost, is_cutting
from signbench.keys import LAST_KEY, end_keys, is_table, may_wait, presses_without_loss, read_keys
from signbench.kinds import LAST_SOUND, is_number, is_row, is_whole
from signbench.nets import END_KIND, MOST_PLACES, is_net, is_rates
from signbench.wishes import MOST_WISHES, is_wish, thinned

MOST_WAITING = 3


def holds(thing):
    """Whether a thing is a paper that holds."""
    if not isinstance(thing, tuple):
        return False
    if len(thing) == 5 and thing[0] == "keys":
        return keys_hold(thing[1], thing[2], thing[3], thing[4])
    if len(thing) == 6 and thing[0] == "cutting":
        return cutting_holds(thing[1], thing[2], thing[3], thing[4], thing[5])
    return False


def keys_hold(table, sounds, keys, standings):
    """Whether the parts of a paper of keys are what they are to be."""
    if not is_table(table) or not are_numbers(sounds, LAST_SOUND) or len(sounds) > MOST_PLACES:
        return False
    if not are_standings(table, sounds, standings):
        return False
    counts = {(place, waiting): many for place, waiting, many in standings}
    if len(counts) < len(standings) or counts.get((0, ())) != 0 or not lead_on(table, sounds, counts):
        return False
    ends = [many for (place, waiting), many in counts.items() if is_end(table, sounds[place:], waiting)]
    if keys is None:
        return not ends
    if not are_numbers(keys, LAST_KEY) or read_keys(table, keys) != (sounds, []):
        return False
    return all([many >= len(keys) for many in ends])


def are_numbers(thing, high):
    """Whether a thing is a list of whole numbers, each from 0 to high."""
    return isinstance(thing, list) and all([is_whole(part, 0, high) for part in thing])


def are_standings(table, sounds, thing):
    """Whether a thing is a list of tuples (place, waiting, many)."""
    return isinstance(thing, list) and all([is_key_standing(table, sounds, part) for part in thing])


def is_key_standing(table, sounds, thing):
    """Whether a thing is a tuple (place, waiting, many)."""
    if not isinstance(thing, tuple) or len(thing) != 3:
        return False
    place, waiting, many = thing
    if not is_whole(place, 0, len(sounds)) or not is_number(many) or many < 0:
        return False
    return is_row(waiting, 0, MOST_WAITING, LAST_KEY) and (waiting == () or may_wait(table, waiting))


def lead_on(table, sounds, counts):
    """Whether each key that may be pressed leads from each standing to one whose count is at most one more."""
    # What a press does hangs on the waiting keys alone, so it is asked once for all places.
    presses = {}
    for (place, waiting), many in counts.items():
        if waiting not in presses:
            presses[waiting] = presses_without_loss(table, waiting)
        for key, told, then in presses[waiting]:
            if sounds[place:place + len(told)] == told:
                reached = counts.get((place + len(told), then))
                if reached is None or reached > many + 1:
                    return False
    return True


def is_end(table, others, waiting):
    """Whether the waiting keys, ended, make just the other sounds and lose none."""
    return end_keys(table, waiting) == (others, [])


def cutting_holds(net, rates, wishes, prices, cutting):
    """Whether the parts of a paper of a cutting are what they are to be."""
    if not is_net(net) or not is_rates(rates) or not are_wishes(len(net), wishes):
        return False
    if not isinstance(prices, list) or len(prices) != len(net) + 1 or not all([are_prices(row) for row in prices]):
        return False
    left = thinned(net, wishes)
    if prices[0] != [(END_KIND, 0)] or not bar_cheaper(left, rates, prices):
        return False
    if cutting is None:
        return not prices[-1]
    if not is_cutting(left, cutting):
        return False
    cost = cutting_cost(left, rates, cutting)
    return all([cost <= price + rates[kind][END_KIND] for kind, price in prices[-1]])


def are_wishes(n, thing):
    """Whether a thing is a list of wishes for n places, no more than may be."""
    if not isinstance(thing, list) or len(thing) > MOST_WISHES:
        return False
    return all([is_wish(n, part) for part in thing])


def are_prices(thing):
    """Whether a thing is a list of tuples (kind, price), no two of like kind."""
    if not isinstance(thing, list) or not all([is_price(part) for part in thing]):
        return False
    return len({part[0] for part in thing}) == len(thing)


def is_price(thing):
    """Whether a thing is a tuple (kind, price)."""
    if not isinstance(thing, tuple) or len(thing) != 2:
        return False
    return is_whole(thing[0], 0, END_KIND) and is_number(thing[1])


def bar_cheaper(net, rates, prices):
    """Whether each piece leads from each price at its begin to one at its end that is not above what it costs."""
    known = [dict(row) for row in prices]
    for place, pieces in enumerate(net):
        for end, signs, kind, cost in pieces:
            for ahead, price in prices[place]:
                if kind not in known[end] or known[end][kind] > price + rates[ahead][kind] + cost:
                    return False
    return True
