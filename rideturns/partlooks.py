"""Looks at a paper of rows of days: whether by it two rules drive alike for every row of days."""

from rideturns.parting import behind_both
from rideturns.parting import check_both
from rideturns.parting import first_of_both
from rideturns.rules import sets_of


def is_shared_day(thing, order):
    """Tell of anything whether it is a list of two or more unlike names of the order."""
    if not isinstance(thing, list) or len(thing) < 2 or not all([name in order for name in thing]):
        return False
    return len(set(thing)) == len(thing)


def is_row(thing, order):
    """Tell of anything whether it is a list of such days."""
    return isinstance(thing, list) and all([is_shared_day(day, order) for day in thing])


def behind_row(one, other, row):
    """Tell both memories behind a row of days, or None where the two drive unlike on one of them."""
    memories = first_of_both(one, other)
    for day in row:
        if memories is not None:
            memories = behind_both(one, other, memories, day)
    return memories


def shows_alike(one, other, thing):
    """Tell of anything whether it is a list of rows by which the two drive alike for every row of days."""
    check_both(one, other)
    if not isinstance(thing, list) or not all([is_row(row, one[1]) for row in thing]) or [] not in thing:
        return False
    table = {}
    for row in thing:
        table[behind_row(one, other, row)] = True
    if None in table:
        return False
    return all([behind_both(one, other, memories, names) in table for memories in table for names in sets_of(one[1])])
