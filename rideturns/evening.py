"""Evening: whether all can be even behind coming days, by which drivers, and how soon.

Only how often each one drives counts: behind all days one's credit is that number less what is wanted of that one.
So drivers are found by passing days on from driver to driver until nobody drives too often or too seldom.
"""

from rideturns.kinds import is_whole
from rideturns.shares import Share
from rideturns.standings import check_even
from rideturns.standings import joined
from rideturns.standings import turned


def wanted(standing, days):
    """Tell how often each one would have to drive to come to nought behind all days."""
    check_even(standing)
    fares = joined({}, [{name: Share(1, len(riders)) for name in riders} for riders, able in days])
    return joined(fares, [turned(standing)])


def slack_share(slack):
    """Tell a slack as a Share."""
    return Share(slack) if is_whole(slack) else slack


def least_of(want, slack):
    """Tell the least number of drives, from 0 on, that isn't below the want less the slack."""
    return max(0, -slack.less(want).whole())


def most_of(want, slack):
    """Tell the greatest number of drives that isn't above the want and the slack, or 0."""
    return max(0, want.plus(slack).whole())


def is_parted(want, slack):
    """Tell whether no number of drives, from 0 on, is within the slack of the want."""
    return want.plus(slack).whole() < least_of(want, slack)


def drives_given(days, drivers, name):
    """Tell tuples (other, day, taker) of each drive of the name that another one can take over."""
    return [(other, at, other) for at, driver in enumerate(drivers) if driver == name for other in days[at][1]]


def drives_taken(days, drivers, name):
    """Tell tuples (other, day, taker) of each drive of another one that the name can take over."""
    return [(driver, at, name) for at, driver in enumerate(drivers) if name in days[at][1]]


def find_way(starts, goals, steps):
    """Tell (came, end): of each name that is come to the name it is come from, with the drive; and a goal, or None."""
    came = {name: None for name in starts}
    waiting = list(starts)
    at = 0
    while at < len(waiting):
        name = waiting[at]
        if name in goals:
            return came, name
        for other, day, taker in steps(name):
            if other not in came:
                came[other] = (name, day, taker)
                waiting.append(other)
        at += 1
    return came, None


def pass_along(drivers, came, end):
    """Let each drive of a way pass to its taker; tell where the way began."""
    name = end
    while came[name] is not None:
        name, day, taker = came[name]
        drivers[day] = taker
    return name


def fill_days(days, drivers, mosts):
    """Find a driver for each day, nobody beyond their most; tell None, or the names that are crowded."""
    for riders, able in days:
        goals = [name for name in mosts if drivers.count(name) < mosts[name]]
        came, end = find_way(able, goals, lambda name: drives_given(days, drivers, name))
        if end is None:
            return tuple(sorted(came))
        drivers.append(pass_along(drivers, came, end))
    return None


def raise_to_leasts(days, drivers, leasts):
    """Let everybody drive as often as their least; tell None, or the names that have too few days."""
    for name in sorted(leasts):
        while drivers.count(name) < leasts[name]:
            goals = [one for one in leasts if drivers.count(one) > leasts[one]]
            came, end = find_way([name], goals, lambda one: drives_taken(days, drivers, one))
            if end is None:
                return tuple(sorted(came))
            pass_along(drivers, came, end)
    return None


def search(standing, days, slack):
    """Tell (drivers, None), or (None, paper) where there are no such drivers."""
    wants = wanted(standing, days)
    spare = slack_share(slack)
    for name in sorted(wants):
        if is_parted(wants[name], spare):
            return None, ("part", name)
    drivers = []
    crowd = fill_days(days, drivers, {name: most_of(wants[name], spare) for name in wants})
    if crowd is not None:
        return None, ("crowd", crowd)
    few = raise_to_leasts(days, drivers, {name: least_of(wants[name], spare) for name in wants})
    if few is not None:
        return None, ("few", few)
    return drivers, None


def evened(standing, days, slack=0):
    """Tell drivers, one for each day, behind which all are even, or None."""
    drivers, paper = search(standing, days, slack)
    return drivers


def why_uneven(standing, days, slack=0):
    """Tell None where there are such drivers, else a paper that bars them."""
    drivers, paper = search(standing, days, slack)
    return paper


def soonest(standing, days, slack=0):
    """Tell (many, drivers, papers): the least number of first days behind which all can be even."""
    check_even(standing)
    papers = []
    for many in range(len(days) + 1):
        drivers, paper = search(standing, days[:many], slack)
        if paper is None:
            return many, drivers, papers
        papers.append(paper)
    return None, None, papers
