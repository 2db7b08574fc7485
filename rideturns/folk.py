"""Persons: who may ride, with how many seats, on which weekdays."""

from rideturns.errors import BadName
from rideturns.errors import NoNumber
from rideturns.kinds import is_between
from rideturns.kinds import is_mask
from rideturns.kinds import is_name
from rideturns.masks import mask_text

MOST_SEATS = 9


class Person:
    """A name, the seats of their car (0 is no car) and a mask of weekdays on which they want to ride."""

    def __init__(self, name, seats=0, mask=31):
        if not is_name(name):
            raise BadName(name)
        if not is_between(seats, 0, MOST_SEATS):
            raise NoNumber(seats)
        if not is_mask(mask):
            raise NoNumber(mask)
        self.name = name
        self.seats = seats
        self.mask = mask

    def __eq__(self, other):
        return (isinstance(other, Person) and self.name == other.name and self.seats == other.seats
                and self.mask == other.mask)

    def __str__(self):
        return f"{self.name} {self.seats} {mask_text(self.mask)}"

    def __repr__(self):
        return f"Person({self.name!r}, {self.seats}, {self.mask})"
