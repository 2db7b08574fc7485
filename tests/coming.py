"""Credits and coming days by chance for the tests, and the document's own words of them in Python's fractions."""

import itertools
import math
from fractions import Fraction

from rideturns.shares import Share, total

NAMES = [sign * 3 for sign in "abcdefghijklmn"]


def worth(share):
    """A Share or a whole number as a fraction."""
    return Fraction(share.top, share.bottom) if isinstance(share, Share) else Fraction(share)


def evened_out(standing):
    """The credits, the last of them so that they are nought together."""
    standing = dict(standing)
    if standing:
        last = list(standing)[-1]
        standing[last] = standing[last].less(total(list(standing.values())))
    return standing


def credits_by_chance(chance, names, most=2, bottoms=(1, 2, 3, 6)):
    return evened_out({name: Share(chance.randint(-most, most), chance.choice(bottoms))
                       for name in names if chance.random() < 0.8})


def days_by_chance(chance, names, many):
    days = []
    for _ in range(many):
        riders = chance.sample(names, chance.randint(1, len(names)))
        days.append((tuple(riders), tuple(chance.sample(riders, chance.randint(1, len(riders))))))
    return days


def wants_of(standing, days):
    """How often each one would have to drive, in fractions."""
    wants = {name: -worth(share) for name, share in standing.items()}
    for riders, _ in days:
        for name in riders:
            wants[name] = wants.get(name, 0) + Fraction(1, len(riders))
    return wants


def behind(standing, days, drivers):
    """The credits behind the days, in fractions."""
    held = {name: worth(share) for name, share in standing.items()}
    for (riders, _), driver in zip(days, drivers, strict=True):
        for name in riders:
            held[name] = held.get(name, 0) - Fraction(1, len(riders)) + (name == driver)
    return held


def are_even(standing, days, drivers, slack):
    return all(abs(held) <= worth(slack) for held in behind(standing, days, drivers).values())


def can_be_even(standing, days, slack):
    """All rows of drivers tried."""
    return any(are_even(standing, days, row, slack) for row in itertools.product(*[able for _, able in days]))


def bars(standing, days, paper, slack):
    """What the document says of a paper, that has the right form."""
    wants = wants_of(standing, days)
    slack = worth(slack)
    kind, names = paper
    if kind == "part":
        most = math.floor(wants[names] + slack)
        return not any(abs(wants[names] - many) <= slack for many in range(max(0, most - 3), most + 3))
    if kind == "few":
        leasts = [max(0, math.ceil(wants[name] - slack)) for name in names]
        return sum(leasts) > sum(1 for _, able in days if set(able) & set(names))
    mosts = [max(0, math.floor(wants[name] + slack)) for name in names]
    return sum(mosts) < sum(1 for _, able in days if set(able) <= set(names))
