"""Rides: a car's way on a day, and the credits that it gives."""

from rideturns.errors import NoRide
from rideturns.kinds import is_between
from rideturns.kinds import is_day
from rideturns.kinds import is_name
from rideturns.kinds import is_whole
from rideturns.shares import Share

MOST_LEGS = 12
MOST_RIDERS = 11
MOST_WORTH = 1000
LATE_PART = 10


def is_rider(thing, legs):
    """Tell of anything whether it is a tuple (name, on, off) within the legs."""
    if not isinstance(thing, tuple) or len(thing) != 3 or not is_name(thing[0]):
        return False
    return is_whole(thing[1]) and is_whole(thing[2]) and 0 <= thing[1] < thing[2] <= legs


def are_riders(thing, driver, legs):
    """Tell of anything whether it is a list of riders, unlike one another and the driver."""
    if not isinstance(thing, list) or len(thing) > MOST_RIDERS:
        return False
    if not all([is_rider(rider, legs) for rider in thing]):
        return False
    names = [driver] + [rider[0] for rider in thing]
    return len(set(names)) == len(names)


def are_late(thing, riders):
    """Tell of anything whether it is a list of unlike names of the riders."""
    names = [rider[0] for rider in riders]
    if not isinstance(thing, list) or not all([name in names for name in thing]):
        return False
    return len(set(thing)) == len(thing)


def first_wrong(day, driver, riders, legs, worth, late):
    """Tell what is wrong first, or None."""
    if not is_day(day):
        return "day"
    if not is_name(driver):
        return "driver"
    if not is_between(legs, 1, MOST_LEGS):
        return "legs"
    if not is_between(worth, 1, MOST_WORTH):
        return "worth"
    if not are_riders(riders, driver, legs):
        return "riders"
    if not are_late(late, riders):
        return "late"
    return None


class Ride:
    """A day, a driver, riders (name, on, off), legs, worth and who came late."""

    def __init__(self, day, driver, riders=None, legs=1, worth=1, late=None):
        riders = [] if riders is None else riders
        late = [] if late is None else late
        reason = first_wrong(day, driver, riders, legs, worth, late)
        if reason is not None:
            raise NoRide(reason)
        self.day = day
        self.driver = driver
        self.legs = legs
        self.worth = worth
        self.stretches = sorted(riders)
        self.latecomers = sorted(late)

    def __len__(self):
        return len(self.folk())

    def __eq__(self, other):
        return (isinstance(other, Ride) and self.day == other.day and self.driver == other.driver
                and self.stretches == other.stretches and self.legs == other.legs
                and self.worth == other.worth and self.latecomers == other.latecomers)

    def __str__(self):
        pieces = [f"{self.day:07d} {self.driver} {self.legs} {self.worth}"]
        if len(self.stretches) > 0:
            pieces.append(": " + ", ".join([f"{name} {on} {off}" for name, on, off in self.stretches]))
        if len(self.latecomers) > 0:
            pieces.append("; late " + " ".join(self.latecomers))
        return "".join(pieces)

    def __repr__(self):
        return f"Ride({self.day}, {self.driver!r}, {self.stretches}, {self.legs}, {self.worth}, {self.latecomers})"

    def riders(self):
        """Tell the tuples (name, on, off), sorted."""
        return list(self.stretches)

    def late(self):
        """Tell who came late, sorted."""
        return list(self.latecomers)

    def folk(self):
        """Tell all names, sorted."""
        return sorted([self.driver] + [name for name, on, off in self.stretches])

    def parts(self):
        """Tell each one's part of the worth: of each leg as much as each other one who rides it."""
        parts = {name: Share(0) for name in self.folk()}
        for leg in range(self.legs):
            aboard = [self.driver] + [name for name, on, off in self.stretches if on <= leg < off]
            part = Share(self.worth, self.legs * len(aboard))
            for name in aboard:
                parts[name] = parts[name].plus(part)
        return parts

    def gives(self):
        """Tell the credit that the ride gives each one; all are nought together."""
        parts = self.parts()
        gives = {name: Share(0).less(parts[name]) for name in parts}
        gives[self.driver] = gives[self.driver].plus(Share(self.worth))
        for late in self.latecomers:
            fee = Share(self.worth, LATE_PART)
            others = [name for name in self.folk() if name != late]
            gives[late] = gives[late].less(fee)
            for name in others:
                gives[name] = gives[name].plus(fee.over(len(others)))
        return gives
