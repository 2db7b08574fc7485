"""Looks at a paper of names: whether by it no drivers make all even behind coming days."""

from rideturns.evening import is_parted
from rideturns.evening import least_of
from rideturns.evening import most_of
from rideturns.evening import slack_share
from rideturns.evening import wanted


def are_rising(thing, names):
    """Tell of anything whether it is a rising tuple of one or more of the names."""
    if not isinstance(thing, tuple) or len(thing) == 0:
        return False
    # Only texts are looked up, as other things may be none that a dict can look up.
    if not all([isinstance(one, str) and one in names for one in thing]):
        return False
    return list(thing) == sorted(set(thing))


def are_few(wants, days, names, slack):
    """Tell whether the leasts of the names are more than the days on which any of them can drive."""
    open_days = [able for riders, able in days if any([name in names for name in able])]
    return sum([least_of(wants[name], slack) for name in names]) > len(open_days)


def are_crowded(wants, days, names, slack):
    """Tell whether the mosts of the names are less than the days on which nobody else can drive."""
    own_days = [able for riders, able in days if all([name in names for name in able])]
    return sum([most_of(wants[name], slack) for name in names]) < len(own_days)


def shows_uneven(standing, days, thing, slack=0):
    """Tell of anything whether it is a paper that bars all drivers behind whom all would be even."""
    wants = wanted(standing, days)
    spare = slack_share(slack)
    if not isinstance(thing, tuple) or len(thing) != 2:
        return False
    kind, named = thing
    if kind == "part":
        return isinstance(named, str) and named in wants and is_parted(wants[named], spare)
    if not are_rising(named, wants):
        return False
    if kind == "few":
        return are_few(wants, days, named, spare)
    return kind == "crowd" and are_crowded(wants, days, named, spare)
