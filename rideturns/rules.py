"""Rules of turns: ("least", order, grain), ("longest", order), ("rounds", order)."""

from rideturns.kinds import is_between
from rideturns.kinds import is_name

MOST_NAMES = 8
MOST_GRAIN = 1000


def is_order(thing):
    """Tell of anything whether it is a tuple of one to eight unlike names."""
    if not isinstance(thing, tuple) or not 1 <= len(thing) <= MOST_NAMES:
        return False
    return all([is_name(name) for name in thing]) and len(set(thing)) == len(thing)


def is_rule(thing):
    """Tell of anything whether it is a rule of turns."""
    if not isinstance(thing, tuple) or len(thing) < 2 or not is_order(thing[1]):
        return False
    if thing[0] == "least":
        return len(thing) == 3 and is_between(thing[2], 0, MOST_GRAIN)
    return len(thing) == 2 and thing[0] in ("longest", "rounds")


def is_small_rule(thing):
    """Tell of anything whether it is a rule of two or three names."""
    return is_rule(thing) and 2 <= len(thing[1]) <= 3


def sets_of(order):
    """Tell all sets of two names or more, each a tuple, its names as in the order."""
    sets = [()]
    for name in order:
        sets = sets + [names + (name,) for names in sets]
    return [names for names in sets if len(names) >= 2]


def row_of(sets):
    """Tell a row of days, each a list of its own."""
    return [list(names) for names in sets]
