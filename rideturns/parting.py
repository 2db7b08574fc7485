"""Parting: a shortest row of days that parts two rules, or a paper by which none does."""

from rideturns.errors import NoRule
from rideturns.rules import is_small_rule
from rideturns.rules import row_of
from rideturns.rules import sets_of
from rideturns.turns import driver_by
from rideturns.turns import first_memory
from rideturns.turns import memory_behind


def check_both(one, other):
    """Refuse what aren't two rules of the same two or three names."""
    for rule in (one, other):
        if not is_small_rule(rule):
            raise NoRule(rule)
    if sorted(one[1]) != sorted(other[1]):
        raise NoRule(other)


def first_of_both(one, other):
    """Tell both memories ahead of all days."""
    return first_memory(one), first_memory(other)


def behind_both(one, other, memories, riders):
    """Tell both memories behind a day, or None where the two drive unlike on it."""
    if driver_by(one, memories[0], riders) != driver_by(other, memories[1], riders):
        return None
    return memory_behind(one, memories[0], riders), memory_behind(other, memories[1], riders)


def search(one, other):
    """Tell (rows, parted): a shortest row to each two memories, and a row that parts the two rules, or None."""
    start = first_of_both(one, other)
    rows = {start: ()}
    waiting = [start]
    at = 0
    while at < len(waiting):
        memories = waiting[at]
        for names in sets_of(one[1]):
            row = rows[memories] + (names,)
            behind = behind_both(one, other, memories, names)
            # Memories are gone through by the lengths of their rows, so the first such row is a shortest one.
            if behind is None:
                return rows, row
            if behind not in rows:
                rows[behind] = row
                waiting.append(behind)
        at += 1
    return rows, None


def parting(one, other):
    """Tell a shortest row of days on whose last one alone the two drive unlike, or None."""
    check_both(one, other)
    rows, parted = search(one, other)
    return None if parted is None else row_of(parted)


def alike(one, other):
    """Tell None where a row parts the two, else a row to each two memories that days lead to."""
    check_both(one, other)
    rows, parted = search(one, other)
    return None if parted is not None else [row_of(rows[memories]) for memories in rows]
