"""Looks at a table of credits: whether no row of days leads out of it."""

from rideturns.kinds import is_whole
from rideturns.reaching import check_least
from rideturns.reaching import SIXTH
from rideturns.rules import sets_of
from rideturns.turns import first_memory
from rideturns.turns import memory_behind


def are_sixths(thing, many):
    """Tell of anything whether it is a tuple of so many whole numbers."""
    return isinstance(thing, tuple) and len(thing) == many and all([is_whole(sixths) for sixths in thing])


def shows_reached(rule, thing):
    """Tell of anything whether it is a list of unlike credits, the noughts among them, that no day leads out of."""
    check_least(rule)
    if not isinstance(thing, list) or not all([are_sixths(one, len(rule[1])) for one in thing]):
        return False
    table = {}
    for one in thing:
        table[tuple([sixths * SIXTH for sixths in one])] = True
    if len(table) < len(thing) or first_memory(rule) not in table:
        return False
    return all([memory_behind(rule, held, names) in table for held in table for names in sets_of(rule[1])])
