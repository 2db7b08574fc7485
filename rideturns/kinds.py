"""What a thing is: a whole number, a name, a day, a mask. Each is told of anything."""

from rideturns.errors import NoDay

LAST_DAY = 1000000
LAST_MASK = 127
LONGEST_NAME = 8


def is_whole(thing):
    """Tell whether it is an int that is no truth."""
    return isinstance(thing, int) and not isinstance(thing, bool)


def is_between(thing, low, high):
    """Tell whether it is a whole number from low to high, both counted."""
    return is_whole(thing) and low <= thing <= high


def is_name(thing):
    """Tell whether it is a text of one to eight small letters."""
    if not isinstance(thing, str) or not 1 <= len(thing) <= LONGEST_NAME:
        return False
    return all(["a" <= sign <= "z" for sign in thing])


def is_day(thing):
    """Tell whether it is a day."""
    return is_between(thing, 0, LAST_DAY)


def is_mask(thing):
    """Tell whether it is a mask of weekdays."""
    return is_between(thing, 0, LAST_MASK)


def check_day(thing):
    """Refuse what is no day."""
    if not is_day(thing):
        raise NoDay(thing)


def check_span(first, last):
    """Refuse what are no days, or a last one ahead of the first."""
    check_day(first)
    check_day(last)
    if last < first:
        raise NoDay(last)
