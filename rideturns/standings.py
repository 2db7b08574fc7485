"""Standings: credits by names, a dict of Shares; who isn't in it has nought."""

from rideturns.errors import Uneven
from rideturns.shares import same_share
from rideturns.shares import Share
from rideturns.shares import total


def check_even(standing):
    """Refuse credits that aren't nought together."""
    rest = total(list(standing.values()))
    if rest.top != 0:
        raise Uneven(rest)


def joined(standing, moves):
    """Tell the credits behind a list of moves, each a dict from names to Shares; a new dict of new Shares."""
    told = {name: same_share(standing[name]) for name in standing}
    for move in moves:
        for name in move:
            told[name] = told.get(name, Share(0)).plus(move[name])
    return told


def turned(standing):
    """Tell each credit taken from nought, a new dict."""
    return {name: Share(0).less(standing[name]) for name in standing}
