"""Shares: exact fractions in lowest terms, and what is told of many of them."""

from rideturns.errors import NoKind
from rideturns.errors import NoShare
from rideturns.errors import Nought
from rideturns.kinds import is_whole

FIGURES = "0123456789"


def common_part(one, other):
    """Tell the greatest number that divides both, found by rests."""
    one = abs(one)
    other = abs(other)
    while other != 0:
        one, other = other, one % other
    return one


class Share:
    """A fraction in lowest terms, its bottom from 1 on."""

    def __init__(self, top, bottom=1):
        for thing in (top, bottom):
            if not is_whole(thing):
                raise NoKind(thing)
        if bottom == 0:
            raise Nought(top)
        common = common_part(top, bottom)
        if bottom < 0:
            common = -common
        self.top = top // common
        self.bottom = bottom // common

    def __eq__(self, other):
        return isinstance(other, Share) and self.top == other.top and self.bottom == other.bottom

    def __str__(self):
        if self.bottom == 1:
            return f"{self.top}"
        return f"{self.top}/{self.bottom}"

    def __repr__(self):
        return f"Share({self.top}, {self.bottom})"

    def plus(self, other):
        """Tell the sum of both, a new Share."""
        return Share(self.top * other.bottom + other.top * self.bottom, self.bottom * other.bottom)

    def less(self, other):
        """Tell what is left when the other one is taken away, a new Share."""
        return Share(self.top * other.bottom - other.top * self.bottom, self.bottom * other.bottom)

    def times(self, many):
        """Tell it taken so many times, a new Share."""
        return Share(self.top * many, self.bottom)

    def over(self, many):
        """Tell it parted by a whole number, a new Share; making it refuses 0 with Nought of the own top."""
        return Share(self.top, self.bottom * many)

    def below(self, other):
        """Tell whether it is less than the other one."""
        return self.top * other.bottom < other.top * self.bottom

    def whole(self):
        """Tell the greatest whole number that isn't above it."""
        return self.top // self.bottom


def same_share(share):
    """Tell a new Share of the same worth, which needs no bringing to lowest terms again."""
    told = Share(0)
    told.top = share.top
    told.bottom = share.bottom
    return told


def total(shares, start=0):
    """Tell the sum of Shares and of a whole number to start from."""
    summed = Share(start)
    for share in shares:
        summed = summed.plus(share)
    return summed


def greatest(shares, none=None):
    """Tell the greatest of Shares, or what was handed in for none."""
    if len(shares) == 0:
        return none
    best = shares[0]
    for share in shares:
        if best.below(share):
            best = share
    return best


def in_order(names, shares):
    """Tell the names by their Shares, the least first, alike ones by names."""
    nought = Share(0)
    ordered = []
    for name in sorted(names):
        share = shares.get(name, nought)
        at = len(ordered)
        while at > 0 and share.below(shares.get(ordered[at - 1], nought)):
            at -= 1
        ordered.insert(at, name)
    return ordered


def is_number_text(text):
    """Tell whether a text is a number's figures, without a 0 ahead but in 0 itself."""
    if text == "0":
        return True
    return text != "" and text[0] != "0" and all([sign in FIGURES for sign in text])


def share_of(text):
    """Read the text of a Share, just as str writes it."""
    if not isinstance(text, str):
        raise NoShare(text)
    top, stroke, bottom = text.partition("/")
    if stroke == "":
        bottom = "1"
    if not is_number_text(top.removeprefix("-")) or not is_number_text(bottom) or bottom == "0":
        raise NoShare(text)
    share = Share(int(top), int(bottom))
    # What is left has another text of the same worth, such as 2/4, 3/1 or -0.
    if str(share) != text:
        raise NoShare(text)
    return share
