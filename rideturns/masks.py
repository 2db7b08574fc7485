"""Masks of weekdays: the weekday d is in a mask that has the d-th power of two."""

from rideturns.errors import NoNumber
from rideturns.errors import NoText
from rideturns.kinds import is_between
from rideturns.kinds import is_mask

WEEK = 7
SIXTEEN = "0123456789abcdef"


def mask_text(mask):
    """Write a mask as two figures of sixteen."""
    return f"{mask:02x}"


def mask_of(text):
    """Read a mask, just as mask_text writes it."""
    if not isinstance(text, str) or len(text) != 2:
        raise NoText(0)
    high = SIXTEEN.find(text[0])
    low = SIXTEEN.find(text[1])
    if high < 0 or low < 0 or not is_mask(high * 16 + low):
        raise NoText(0)
    return high * 16 + low


def weekdays(mask):
    """Tell the weekdays of a mask, rising."""
    return [day for day in range(WEEK) if (mask >> day) & 1 == 1]


def mask_from(days):
    """Tell the mask of a list of weekdays."""
    mask = 0
    for day in days:
        if not is_between(day, 0, WEEK - 1):
            raise NoNumber(day)
        mask = mask | (1 << day)
    return mask
