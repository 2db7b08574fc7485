"""A book: names that come and go, rides and hand-overs, and the credits that hang on them.

Each deed puts new dicts and lists in the place of the old ones, so that the old ones can be kept to undo it.
"""

from rideturns.errors import BadName
from rideturns.errors import NoDay
from rideturns.errors import NoName
from rideturns.errors import NoNumber
from rideturns.errors import NothingDone
from rideturns.errors import Taken
from rideturns.handing import after
from rideturns.handing import paid_off
from rideturns.kinds import check_day
from rideturns.kinds import is_name
from rideturns.rides import Ride
from rideturns.shares import same_share
from rideturns.shares import Share
from rideturns.standings import joined
from rideturns.standings import turned


def same_ride(ride):
    """Tell a new Ride that is equal to this one."""
    return Ride(ride.day, ride.driver, ride.riders(), ride.legs, ride.worth, ride.late())


def is_first(one, other):
    """Tell whether a hand-over (day, payer, taker, share) comes ahead of another one."""
    if one[:3] == other[:3]:
        return one[3].below(other[3])
    return one[:3] < other[:3]


def with_passed(passed, one):
    """Tell sorted hand-overs with one more, a new list."""
    at = len(passed)
    while at > 0 and is_first(one, passed[at - 1]):
        at -= 1
    return passed[:at] + [one] + passed[at:]


def moved_by(gives):
    """Tell whose credits are moved, and how much, a new dict."""
    return {name: same_share(gives[name]) for name in gives if gives[name].top != 0}


class Book:
    """Names, rides and hand-overs, told in any order."""

    def __init__(self):
        # Of each name that ever entered whether it is in, and its credit by all days.
        self.inside = {}
        self.credit = {}
        # By (day, driver) the ride and what it gives.
        self.ridden = {}
        # Tuples (day, payer, taker, share), sorted.
        self.passed = []
        self.before = []

    def __len__(self):
        return len(self.ridden)

    def __eq__(self, other):
        return (isinstance(other, Book) and self.inside == other.inside and self.ridden == other.ridden
                and self.passed == other.passed)

    def has_entered(self, name):
        """Tell of anything whether it is a name that ever entered."""
        # Only a text is looked up, as other things may be none that a dict can look up.
        return isinstance(name, str) and name in self.inside

    def is_in(self, name):
        """Tell of anything whether it is a name that is in."""
        return self.has_entered(name) and self.inside[name]

    def check_entered(self, name):
        """Refuse what is no name that ever entered."""
        if not self.has_entered(name):
            raise NoName(name)

    def keep_state(self):
        """Keep what is now, so that the deed that follows can be undone."""
        self.before.append((self.inside, self.credit, self.ridden, self.passed))

    def forget(self):
        """Let no deed so far be undone."""
        self.before = []

    def enter(self, name):
        """Let a name come in."""
        if not is_name(name):
            raise BadName(name)
        if self.is_in(name):
            raise Taken(name)
        self.keep_state()
        self.inside = {**self.inside, name: True}
        self.credit = joined(self.credit, [{name: Share(0)}])

    def tell(self, ride):
        """Let a Ride be told; tell whose credits moved."""
        for name in ride.folk():
            self.check_entered(name)
        if (ride.day, ride.driver) in self.ridden:
            raise Taken(ride.driver)
        self.keep_state()
        kept = same_ride(ride)
        gives = kept.gives()
        self.ridden = {key: self.ridden[key] for key in self.ridden}
        self.ridden[(kept.day, kept.driver)] = (kept, gives)
        self.credit = joined(self.credit, [gives])
        return moved_by(gives)

    def take_back(self, day, driver):
        """Let a ride be out again; tell whose credits moved."""
        check_day(day)
        if not isinstance(driver, str) or (day, driver) not in self.ridden:
            raise NoDay(day)
        self.keep_state()
        taken = turned(self.ridden[(day, driver)][1])
        self.ridden = {key: self.ridden[key] for key in self.ridden if key != (day, driver)}
        self.credit = joined(self.credit, [taken])
        return moved_by(taken)

    def add_passed(self, day, payer, taker, share):
        """Enter a hand-over that nothing bars."""
        self.passed = with_passed(self.passed, (day, payer, taker, same_share(share)))
        self.credit = after(self.credit, [(payer, taker, share)])

    def hand(self, day, payer, taker, share):
        """Let a hand-over of a day be told."""
        check_day(day)
        self.check_entered(payer)
        self.check_entered(taker)
        if payer == taker:
            raise Taken(payer)
        if not isinstance(share, Share) or not Share(0).below(share):
            raise NoNumber(share)
        self.keep_state()
        self.add_passed(day, payer, taker, share)

    def leave(self, name, day):
        """Let a name go out, paid off; tell the hand-overs."""
        if not self.is_in(name):
            raise NoName(name)
        check_day(day)
        handed = paid_off(self.credit, name)
        self.keep_state()
        self.inside = {**self.inside, name: False}
        for payer, taker, share in handed:
            self.add_passed(day, payer, taker, share)
        return handed

    def undo(self):
        """Take back the last deed that isn't undone."""
        if len(self.before) == 0:
            raise NothingDone("no deed is left")
        self.inside, self.credit, self.ridden, self.passed = self.before.pop()

    def names(self):
        """Tell the names that are in, sorted."""
        return sorted([name for name in self.inside if self.inside[name]])

    def gone(self):
        """Tell the names that are out, but were in, sorted."""
        return sorted([name for name in self.inside if not self.inside[name]])

    def rides(self, day=None):
        """Tell the rides, or those of a day, sorted by days, then drivers."""
        if day is not None:
            check_day(day)
        return [same_ride(self.ridden[key][0]) for key in sorted(self.ridden) if day is None or key[0] == day]

    def handed(self):
        """Tell the hand-overs (day, payer, taker, share), sorted."""
        return [(day, payer, taker, same_share(share)) for day, payer, taker, share in self.passed]

    def stands(self, day=None):
        """Tell the credits of all that ever entered, by all days or by those up to a day."""
        if day is None:
            return joined(self.credit, [])
        check_day(day)
        noughts = {name: Share(0) for name in self.inside}
        standing = joined(noughts, [self.ridden[key][1] for key in self.ridden if key[0] <= day])
        return after(standing, [(payer, taker, share) for at, payer, taker, share in self.passed if at <= day])
