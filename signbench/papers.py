"""Papers: the fewest keys, or the first cutting, told with what bars fewer or a cheaper one."""

from signbench.cuttings import first_cuttings, prices
from signbench.keys import fewest_keys, key_standings
from signbench.wishes import thinned


def keys_paper(table, sounds):
    """The paper of the fewest keys for a list of sounds."""
    return ("keys", list(table), list(sounds), fewest_keys(table, sounds), key_standings(table, sounds))


def cutting_paper(net, rates, wishes):
    """The paper of the first cutting of a net that keeps all wishes."""
    left = thinned(net, wishes)
    found = first_cuttings(left, rates, 1)
    cutting = found[0][1] if found else None
    return ("cutting", [list(pieces) for pieces in net], rates, list(wishes), prices(left, rates), cutting)
