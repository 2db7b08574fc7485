"""Wants: who wants to ride on which day."""

from rideturns.errors import NoDay
from rideturns.errors import NoName
from rideturns.errors import NoNumber
from rideturns.errors import Taken
from rideturns.kinds import check_day
from rideturns.kinds import check_span
from rideturns.kinds import is_mask
from rideturns.kinds import LAST_DAY
from rideturns.masks import WEEK
from rideturns.masks import weekdays


class Wish:
    """All that was told of one name."""

    def __init__(self, person, day):
        self.seats = person.seats
        self.first = day
        self.last = LAST_DAY
        self.masks = {day: person.mask}
        self.alone = {}
        self.spans = []

    def is_sick(self, day):
        """Tell whether the day is in a span of sick days."""
        return any([first <= day <= last for first, last in self.spans])

    def mask_on(self, day):
        """Tell the mask that counts on a day, which isn't ahead of the day of entering."""
        return self.masks[max([start for start in self.masks if start <= day])]

    def holds_on(self, day):
        """Tell whether the name wants to ride on the day."""
        if not self.first <= day <= self.last or self.is_sick(day):
            return False
        if day in self.alone:
            return self.alone[day]
        return day % WEEK in weekdays(self.mask_on(day))


class Wants:
    """Who wants to ride on which day, by all that was told so far."""

    def __init__(self):
        self.wishes = {}

    def wish_of(self, name):
        """Tell the wish of a name that entered; of anything else refuse it."""
        # Only a text is looked up, as other things may be none that a dict can look up.
        if not isinstance(name, str) or name not in self.wishes:
            raise NoName(name)
        return self.wishes[name]

    def enter(self, person, day=0):
        """Let a Person in from a day on."""
        if person.name in self.wishes:
            raise Taken(person.name)
        check_day(day)
        self.wishes[person.name] = Wish(person, day)

    def leave(self, name, day):
        """Let a day be the last one of a name."""
        wish = self.wish_of(name)
        check_day(day)
        wish.last = day

    def weekly(self, name, mask, day=0):
        """Let another mask count from a day on."""
        wish = self.wish_of(name)
        check_day(day)
        if not is_mask(mask):
            raise NoNumber(mask)
        wish.masks[day] = mask

    def only(self, name, day, want=True):
        """Tell of one day alone whether the name wants to ride."""
        wish = self.wish_of(name)
        check_day(day)
        wish.alone[day] = bool(want)

    def usual(self, name, day):
        """Take back what was told of one day alone."""
        wish = self.wish_of(name)
        check_day(day)
        if day not in wish.alone:
            raise NoDay(day)
        del wish.alone[day]

    def sick(self, name, first, last):
        """Let a name be sick from a day to another one, both counted."""
        wish = self.wish_of(name)
        check_span(first, last)
        wish.spans.append((first, last))

    def well(self, name, day):
        """Let a name be sick on no day from this one on, by what was told so far."""
        wish = self.wish_of(name)
        check_day(day)
        wish.spans = [(first, min(last, day - 1)) for first, last in wish.spans if first < day]

    def wants(self, name, day):
        """Tell whether a name wants to ride on a day."""
        wish = self.wish_of(name)
        check_day(day)
        return wish.holds_on(day)

    def riders(self, day):
        """Tell who wants to ride on a day, sorted."""
        check_day(day)
        return sorted([name for name in self.wishes if self.wishes[name].holds_on(day)])

    def room(self, day):
        """Tell the seats of those who want to ride on a day."""
        return {name: self.wishes[name].seats for name in self.riders(day)}
