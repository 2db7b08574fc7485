"""Persons: point [7]."""

import unittest

from rideturns.errors import BadName, NoNumber
from rideturns.folk import Person
from rideturns.rides import Ride
from rideturns.shares import Share
from tests.things import NO_NAMES, NO_WHOLES, THINGS, refused

NO_SEATS = NO_WHOLES + [-1, 10, 31, 10 ** 29, -(10 ** 29)]
NO_MASKS = NO_WHOLES + [-1, 128, 10 ** 29, -(10 ** 29)]


class Persons(unittest.TestCase):
    def is_person(self, person, name, seats, mask):
        self.assertEqual((person.name, person.seats, person.mask), (name, seats, mask))
        self.assertEqual((type(person.seats), type(person.mask)), (int, int))

    def test_made(self):
        self.is_person(Person("ann", 4, 96), "ann", 4, 96)
        self.is_person(Person("ann", 4), "ann", 4, 31)
        self.is_person(Person("ann"), "ann", 0, 31)
        self.is_person(Person(name="ann"), "ann", 0, 31)
        self.is_person(Person("ann", mask=0), "ann", 0, 0)
        self.is_person(Person(mask=127, name="z", seats=9), "z", 9, 127)
        self.is_person(Person("abcdefgh", 0, 0), "abcdefgh", 0, 0)

    def test_all_seats_and_masks(self):
        for seats in range(10):
            for mask in range(128):
                self.is_person(Person("bob", seats, mask), "bob", seats, mask)

    def test_no_name(self):
        for thing in NO_NAMES:
            refused(self, BadName, "name", thing, Person, thing)
            refused(self, BadName, "name", thing, Person, thing, None, [])
            refused(self, BadName, "name", thing, Person, mask=-1, seats=10, name=thing)

    def test_no_seats(self):
        for thing in NO_SEATS:
            refused(self, NoNumber, "thing", thing, Person, "ann", thing)
            refused(self, NoNumber, "thing", thing, Person, "ann", thing, 128)
            refused(self, NoNumber, "thing", thing, Person, mask=["mask"], seats=thing, name="ann")

    def test_no_mask(self):
        for thing in NO_MASKS:
            refused(self, NoNumber, "thing", thing, Person, "ann", 0, thing)
            refused(self, NoNumber, "thing", thing, Person, "ann", mask=thing)

    def test_equal(self):
        self.assertTrue(Person("ann") == Person("ann", 0, 31))
        self.assertFalse(Person("ann", 4, 7) != Person("ann", 4, 7))
        for other in [Person("bob", 4, 7), Person("ann", 5, 7), Person("ann", 4, 8), Person("ann", 7, 4)]:
            self.assertFalse(Person("ann", 4, 7) == other)
            self.assertTrue(Person("ann", 4, 7) != other)

    def test_equal_to_nothing_else(self):
        person = Person("ann", 4, 31)
        for thing in THINGS + ["ann 4 1f", "Person('ann', 4, 31)", ("ann", 4, 31), ["ann", 4, 31], [person],
                               Share(4), Ride(4, "ann"), {"name": "ann", "seats": 4, "mask": 31}]:
            self.assertFalse(person == thing)
            self.assertFalse(thing == person)
            self.assertTrue(person != thing)

    def test_texts(self):
        self.assertEqual((str(Person("ann", 4)), repr(Person("ann", 4))), ("ann 4 1f", "Person('ann', 4, 31)"))
        self.assertEqual((str(Person("z", 0, 9)), repr(Person("z", 0, 9))), ("z 0 09", "Person('z', 0, 9)"))


if __name__ == "__main__":
    unittest.main()
