"""Handing: hand-overs, tuples (payer, taker, share), by which debts are paid."""

from rideturns.errors import NoName
from rideturns.errors import TooMany
from rideturns.shares import in_order
from rideturns.shares import same_share
from rideturns.shares import Share
from rideturns.standings import check_even
from rideturns.standings import joined
from rideturns.standings import turned

MOST_UNEVEN = 10


def after(standing, handed):
    """Tell the credits behind hand-overs."""
    moves = []
    for payer, taker, share in handed:
        moves.append({payer: share})
        moves.append(turned({taker: share}))
    return joined(standing, moves)


def lesser(one, other):
    """Tell the lesser of two Shares, as a new one."""
    return same_share(one if one.below(other) else other)


def above_nought(standing):
    """Tell, in the dict's order, who has a credit above nought."""
    return [name for name in standing if Share(0).below(standing[name])]


def paid_off(standing, name):
    """Tell hand-overs that bring a name's credit to nought, with those who have most first."""
    check_even(standing)
    if not isinstance(name, str) or name not in standing:
        raise NoName(name)
    owes = standing[name].below(Share(0))
    # Seen from the name that owes; who is owed sees all credits the other way about.
    seen = standing if owes else turned(standing)
    left = Share(0).less(seen[name])
    handed = []
    for other in in_order(above_nought(seen), turned(seen)):
        if left.top != 0:
            share = lesser(seen[other], left)
            handed.append((name, other, share) if owes else (other, name, share))
            left = left.less(share)
    return handed


def whole_credits(standing, names):
    """Tell the names' credits, all taken as many times as makes them whole numbers."""
    common = 1
    for name in names:
        common = common * standing[name].bottom
    return [standing[name].top * (common // standing[name].bottom) for name in names]


def sums_of_sets(numbers):
    """Tell the sum of each set of the numbers: at index k that of those at whose places k has a power of two."""
    sums = [0]
    for number in numbers:
        sums = sums + [one + number for one in sums]
    return sums


def without_one(chosen, many):
    """Tell each set that is left if one of so many places is taken out of a set: tuples (set, place)."""
    return [(chosen - (1 << place), place) for place in range(many) if (chosen >> place) & 1 == 1]


def best_takings(sums, many):
    """Tell of each set the place to take out first, so that most sets on the way to none are nought together."""
    noughts = [0]
    places = [None]
    for chosen in range(1, len(sums)):
        best, place = max([(noughts[left], place) for left, place in without_one(chosen, many)])
        noughts.append(best + 1 if sums[chosen] == 0 else best)
        places.append(place)
    return places


def lots(standing):
    """Tell as many lots as can be, each nought together, of all whose credit is unlike nought."""
    check_even(standing)
    names = sorted([name for name in standing if standing[name].top != 0])
    if len(names) > MOST_UNEVEN:
        raise TooMany(MOST_UNEVEN)
    sums = sums_of_sets(whole_credits(standing, names))
    places = best_takings(sums, len(names))
    told = []
    lot = []
    chosen = len(sums) - 1
    while chosen > 0:
        place = places[chosen]
        chosen -= 1 << place
        lot.append(names[place])
        if sums[chosen] == 0:
            told.append(tuple(sorted(lot)))
            lot = []
    return sorted(told)


def settled_lot(standing):
    """Tell hand-overs that bring the credits of one lot to nought, each at least one of its two."""
    handed = []
    owed = above_nought(standing)
    while len(owed) > 0:
        payer = above_nought(turned(standing))[0]
        share = lesser(standing[owed[0]], Share(0).less(standing[payer]))
        handed.append((payer, owed[0], share))
        standing = after(standing, handed[-1:])
        owed = above_nought(standing)
    return handed


def settled(standing):
    """Tell the fewest hand-overs that bring all credits to nought."""
    handed = []
    for lot in lots(standing):
        handed = handed + settled_lot({name: standing[name] for name in lot})
    return handed
