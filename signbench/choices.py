"""Choices of signs for sounds, guesses of words, and signs read back into sounds."""

from signbench.cuttings import first_cuttings
from signbench.errors import NoChoice
from signbench.learning import (
    FIRST_PLAIN_SIGN, learnt, lessened_cost, plain_signs, plain_word, times_learnt, words_of,
)
from signbench.nets import MOST_PLACES


def choices(book, commits, sounds):
    """The signs that may stand for a tuple of sounds: the learnt ones first, then by costs, then the plain ones."""
    costs = least_costs(words_of(book, commits), sounds)
    ranks = learnt_ranks(commits, sounds)
    plain = plain_signs(sounds)
    known = [ranks[signs] + (signs,) for signs in list(costs) + [plain] if signs in ranks]
    others = [(cost, signs) for signs, cost in costs.items() if signs not in ranks]
    found = [signs for many, last, signs in sorted(known)]
    found.extend([signs for cost, signs in sorted(others)])
    if plain not in ranks:
        found.append(plain)
    return found


def least_costs(words, sounds):
    """By the signs of words that have just these sounds the least cost of such a word."""
    costs = {}
    for name, signs, kind, cost in words:
        if name == sounds:
            costs[signs] = min(cost, costs.get(signs, cost))
    return costs


def learnt_ranks(commits, sounds):
    """By the signs learnt with these sounds many and last, each with a minus: so sorted has the greater ones first."""
    return {signs: (-many, -last) for name, signs, many, last in learnt(commits) if name == sounds}


def pages(signs, size):
    """A list of choices in pages of this size, the last one perhaps of fewer."""
    return [signs[at:at + size] for at in range(0, len(signs), size)]


def picked(signs, size, page, figure):
    """The choice of a page (from 0) by a figure (from 1)."""
    if not 1 <= figure <= size or not 0 <= page * size + figure - 1 < len(signs):
        raise NoChoice("there is no such page or figure")
    return signs[page * size + figure - 1]


def guesses(book, commits, begun, many):
    """The first so many words whose sounds begin so: those learnt most first, then by costs."""
    times = times_learnt(commits)
    words = [word for word in words_of(book, commits) if word[0][:len(begun)] == begun]
    ranked = sorted([(-times.get(word[:2], 0), word[3], word) for word in words])
    return [word for rank, cost, word in ranked[:many]]


def read_back(book, commits, rates, signs):
    """The sounds of a tuple of signs, by the first cutting; None where there is none, or they are too many."""
    words = words_of(book, commits)
    times = times_learnt(commits)
    net = [sounding_pieces(words, times, signs, place) for place in range(len(signs))]
    found = first_cuttings(net, rates, 1)
    if not found:
        return None
    cost, cutting = found[0]
    sounds = [sound for piece in cutting for sound in piece[1]]
    return sounds if len(sounds) <= MOST_PLACES else None


def sounding_pieces(words, times, signs, place):
    """The pieces (end, sounds, kind, cost) by which the signs from a place on may be read."""
    found = [word for word in words if signs[place:place + len(word[1])] == word[1]]
    if signs[place] >= FIRST_PLAIN_SIGN:
        found.append(plain_word((signs[place] - FIRST_PLAIN_SIGN,)))
    return sorted([(place + len(word[1]), word[0], word[2], lessened_cost(word, times)) for word in found])
