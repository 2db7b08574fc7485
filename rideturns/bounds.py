"""Bounds: how far anybody can come to owe or be owed by a rule of turns."""

from rideturns.errors import NoName
from rideturns.errors import TooMany
from rideturns.rules import row_of
from rideturns.rules import sets_of
from rideturns.shares import Share
from rideturns.shares import total

MOST_IN_ROW = 6


def never_beyond(many, grain=0):
    """Tell (owed, owes), beyond which nobody comes by "least" of so many names."""
    spare = Share(0) if grain == 0 else Share(1, 2 * grain)
    owed = Share(0)
    owes = Share(0)
    for place in range(1, many):
        step = Share(place, place + 1).plus(spare)
        owed = owed.plus(step.times(place))
        owes = owes.plus(step.times(many - place))
    return owed.times(2).over(many), owes.times(2).over(many)


def check_in_order(order, name):
    """Refuse what is no name of the order."""
    if name not in order:
        raise NoName(name)


def sets_with(order, name):
    """Tell all sets of two names or more that have the name."""
    return [names for names in sets_of(order) if name in names]


def round_bound(order, name):
    """Tell (owed, owes), how far a name can come by "rounds"."""
    check_in_order(order, name)
    owed = []
    owes = []
    for names in sets_with(order, name):
        ahead = names.index(name)
        owed.append(Share(len(names) - 1 - ahead, len(names)))
        owes.append(Share(ahead, len(names)))
    return total(owed), total(owes)


def round_row(order, name, owed=True):
    """Tell a row of days by which a name comes by "rounds" as far as it can."""
    if len(order) > MOST_IN_ROW:
        raise TooMany(MOST_IN_ROW)
    check_in_order(order, name)
    row = []
    for names in sets_with(order, name):
        # A name is owed most straight behind its drive, and owes most straight ahead of it.
        many = names.index(name)
        if owed:
            many += 1
        row = row + row_of([names for day in range(many)])
    return row


def runaway(order, name, owed=True):
    """Tell (ahead, round, gain): by "longest" the name's credit goes on by gain with each going of the round."""
    check_in_order(order, name)
    if len(order) < 3:
        return None
    others = [one for one in order if one != name][:2]
    three = [one for one in order if one == name or one in others]
    # Behind three such days the three stand last in the line; then they pass on until the name is the first of them.
    place = three.index(name)
    ahead = row_of([three for day in range(3 + place)])
    second = three[(place + 1) % 3]
    third = three[(place + 2) % 3]
    # Each of the three drives once in a round; the name rides on its own drive alone, or on two others' drives, too.
    if owed:
        return ahead, [[name, second], [second, third], [second, third]], Share(1, 2)
    return ahead, [[name, second], [name, second], [name, third]], Share(-1, 2)
