"""Reaching: how far few names can come by "least", found by going through all credits that days lead to."""

from rideturns.errors import NoName
from rideturns.errors import NoRule
from rideturns.rules import is_small_rule
from rideturns.rules import row_of
from rideturns.rules import sets_of
from rideturns.shares import Share
from rideturns.turns import first_memory
from rideturns.turns import memory_behind
from rideturns.turns import RIDE_PARTS

# A sixth of RIDE_PARTS: two or three riders part a ride into such.
SIXTH = 140


def check_least(rule):
    """Refuse what is no rule "least" of two or three names."""
    if not is_small_rule(rule) or rule[0] != "least":
        raise NoRule(rule)


def rows_to(rule):
    """Tell, of all credits that some row of days leads to, a shortest such row; the shorter rows come first."""
    start = first_memory(rule)
    rows = {start: ()}
    waiting = [start]
    at = 0
    while at < len(waiting):
        held = waiting[at]
        for names in sets_of(rule[1]):
            behind = memory_behind(rule, held, names)
            if behind not in rows:
                rows[behind] = rows[held] + (names,)
                waiting.append(behind)
        at += 1
    return rows


def reached(rule):
    """Tell all credits, taken six times, that some row of days leads to, sorted."""
    check_least(rule)
    return sorted([tuple([parts // SIXTH for parts in held]) for held in rows_to(rule)])


def farthest(rule, name, owed=True):
    """Tell (credit, row): the greatest credit of a name, or the least, and a shortest row that comes to it."""
    check_least(rule)
    if name not in rule[1]:
        raise NoName(name)
    place = rule[1].index(name)
    rows = rows_to(rule)
    parts = [held[place] for held in rows]
    best = max(parts) if owed else min(parts)
    shortest = [rows[held] for held in rows if held[place] == best][0]
    return Share(best, RIDE_PARTS), row_of(shortest)
