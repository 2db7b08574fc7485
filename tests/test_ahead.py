"""Days ahead: point [34]."""

import copy
import random
import time
import unittest

from rideturns.ahead import plan_ahead
from rideturns.book import Book
from rideturns.cars import carries, choose, crews, fewest, lacking
from rideturns.errors import NoDay
from rideturns.folk import Person
from rideturns.rides import Ride
from rideturns.shares import Share
from rideturns.wants import Wants
from tests.coming import NAMES
from tests.test_book import book_of, state
from tests.things import NO_DAYS, own_lists, refused


def wants_of(*persons):
    wants = Wants()
    for person in persons:
        wants.enter(person)
    return wants


def by_chance(chance, names):
    wants = Wants()
    for name in names:
        wants.enter(Person(name, chance.choice([0, 0, 1, 2, 3, 5, 9]), chance.randint(0, 127)), chance.randint(0, 9))
        wants.only(name, chance.randint(0, 20), chance.random() < 0.5)
        wants.sick(name, chance.randint(0, 9), chance.randint(10, 12))
    some = chance.sample(names, chance.randint(2, len(names)))
    book = book_of(some)
    for day in range(6):
        driver, *others = chance.sample(some, chance.randint(1, min(5, len(some))))
        book.tell(Ride(day, driver, [(other, 0, 1) for other in others], worth=chance.randint(1, 4)))
    return wants, book


def rides_of(plan):
    """The cars of a plan as rides."""
    return [Ride(day, driver, [(other, 0, 1) for other in others]) for day, cars, _ in plan for driver, others in cars]


def planned(wants, book, first, last):
    """The point's own words, each car told to a copy of the book."""
    book = copy.deepcopy(book)
    plan = []
    for day in range(first, last + 1):
        riders, room = wants.riders(day), wants.room(day)
        for name in riders:
            if name not in book.names() + book.gone():
                book.enter(name)
        lack = lacking(riders, room)
        if riders and lack:
            plan.append((day, [], lack))
        elif riders:
            cars = crews(riders, choose(riders, room, book.stands()), room)
            plan.append((day, cars, 0))
            for ride in rides_of([plan[-1]]):
                book.tell(ride)
    return plan


class Plan(unittest.TestCase):
    def test_one_day(self):
        wants = wants_of(Person("ann", 4), Person("bob", 3), Person("cid"))
        self.assertEqual(plan_ahead(wants, Book(), 0, 0), [(0, [("ann", ("bob", "cid"))], 0)])
        book = book_of(["ann", "bob"], [Ride(9, "ann", [("bob", 0, 1)])])
        self.assertEqual(plan_ahead(wants, book, 0, 0), [(0, [("bob", ("ann", "cid"))], 0)])
        self.assertEqual(plan_ahead(last=0, first=0, book=book, wants=wants), [(0, [("bob", ("ann", "cid"))], 0)])

    def test_turns_go_on_by_what_is_planned(self):
        wants = wants_of(Person("ann", 2, 127), Person("bob", 2, 127))
        told = [(day, [(("ann", "bob")[day % 2], (("bob", "ann")[day % 2],))], 0) for day in range(6)]
        self.assertEqual(plan_ahead(wants, Book(), 0, 5), told)

    def test_credits_of_all_days_count(self):
        wants = wants_of(Person("ann", 2, 127), Person("bob", 2, 127))
        book = book_of(["ann", "bob"], [Ride(1000000, "ann", [("bob", 0, 1)])])
        self.assertEqual(plan_ahead(wants, book, 3, 3), [(3, [("bob", ("ann",))], 0)])
        book.hand(7, "bob", "ann", Share(2))
        self.assertEqual(plan_ahead(wants, book, 3, 3), [(3, [("ann", ("bob",))], 0)])

    def test_days_on_which_nobody_wants_to(self):
        wants = wants_of(Person("ann", 4, 1), Person("bob", 0, 4))
        self.assertEqual(plan_ahead(wants, Book(), 0, 8), [(0, [("ann", ())], 0), (2, [], 1), (7, [("ann", ())], 0)])
        self.assertEqual(plan_ahead(wants, Book(), 3, 6), [])
        self.assertEqual(plan_ahead(Wants(), Book(), 0, 50), [])

    def test_where_seats_lack_the_credits_stay(self):
        wants = wants_of(Person("ann", 2, 127), Person("bob", 2, 127), Person("cid", 0, 2), Person("dan", 0, 2), Person("eve", 0, 2))
        told = plan_ahead(wants, Book(), 0, 3)
        self.assertEqual(told, [(0, [("ann", ("bob",))], 0), (1, [], 1), (2, [("bob", ("ann",))], 0), (3, [("ann", ("bob",))], 0)])

    def test_names_that_never_entered_the_book(self):
        wants = wants_of(Person("ann", 3, 127), Person("zoe", 3, 127), Person("bob", 3, 127))
        book = book_of(["ann", "bob"], [Ride(0, "ann", [("bob", 0, 1)])])
        drivers = [cars[0][0] for _, cars, _ in plan_ahead(wants, book, 0, 4)]
        self.assertEqual(drivers, ["bob", "zoe", "ann", "bob", "zoe"])
        self.assertEqual(book.names(), ["ann", "bob"])

    def test_several_cars(self):
        wants = wants_of(*[Person(name, 2, 127) for name in ("ann", "bob", "cid", "dan", "eve")])
        self.assertEqual(plan_ahead(wants, Book(), 0, 1), [
            (0, [("ann", ("dan",)), ("bob", ("eve",)), ("cid", ())], 0), (1, [("cid", ("ann",)), ("dan", ("bob",)), ("eve", ())], 0)])

    def test_by_chance(self):
        lacks = 0
        for seed in range(60):
            chance = random.Random(seed)
            wants, book = by_chance(chance, NAMES[:chance.randint(2, 14)])
            first = chance.randint(6, 12)
            last = first + chance.randint(0, 20)
            before = (copy.deepcopy(state(book)), [wants.room(day) for day in range(40)])
            plan = plan_ahead(wants, book, first, last)
            self.assertEqual((state(book), [wants.room(day) for day in range(40)]), before)
            self.assertEqual(plan, planned(wants, book, first, last))
            own_lists(self, plan)
            for day, cars, lack in plan:
                riders, room = wants.riders(day), wants.room(day)
                self.assertEqual(lack, lacking(riders, room))
                if lack == 0:
                    self.assertTrue(carries(riders, room, cars))
                    self.assertEqual(len(cars), fewest(riders, room))
                lacks += lack > 0
            self.assertEqual([day for day, _, _ in plan], [day for day in range(first, last + 1) if wants.riders(day)])
        self.assertGreater(lacks, 5)

    def test_cars_told_to_the_book_as_rides(self):
        for seed in range(30):
            chance = random.Random(seed)
            names = NAMES[:6]
            wants, book = by_chance(chance, names)
            for name in names:
                if name not in book.names():
                    book.enter(name)
            plan = plan_ahead(wants, book, 10, 30)
            for at, (day, cars, lack) in enumerate(plan):
                self.assertEqual(plan_ahead(wants, book, day, 30), plan[at:])
                for ride in rides_of([(day, cars, lack)]):
                    book.tell(ride)
                self.assertEqual(plan_ahead(wants, book, min(30, day + 1), 30)[:1] if day < 30 else [], plan[at + 1:at + 2])

    def test_two_hundred_days_in_a_moment(self):
        wants = wants_of(*[Person(name, at % 5, 127) for at, name in enumerate(NAMES)])
        start = time.monotonic()
        plan = plan_ahead(wants, book_of(NAMES), 999801, 1000000)
        self.assertLess(time.monotonic() - start, 5)
        self.assertEqual([day for day, _, _ in plan], list(range(999801, 1000001)))

    def test_told_lists_changed(self):
        wants, book = wants_of(Person("ann", 2, 127), Person("bob", 2, 127)), book_of(["ann", "bob"])
        plan = plan_ahead(wants, book, 0, 5)
        before = copy.deepcopy(plan)
        for _, cars, _ in plan:
            cars.clear()
        plan.clear()
        self.assertEqual(plan_ahead(wants, book, 0, 5), before)
        self.assertEqual((wants.riders(3), len(book)), (["ann", "bob"], 0))


class Refused(unittest.TestCase):
    def test_days_that_are_none(self):
        wants, book = wants_of(Person("ann", 2)), book_of(["ann"])
        for thing in NO_DAYS:
            self.assert_no_day(thing, wants, book, thing, 5)
            self.assert_no_day(thing, wants, book, 5, thing)
            self.assert_no_day(thing, wants, book, thing, "x")
        self.assert_no_day(4, wants, book, 5, 4)
        self.assert_no_day(0, wants, book, 1000000, 0)
        self.assert_no_day(1000001, wants, book, 1000000, 1000001)

    def assert_no_day(self, day, wants, book, first, last):
        before = state(book)
        with self.assertRaises(NoDay) as caught:
            plan_ahead(wants, book, first, last)
        self.assertIs(caught.exception.day, day) if not isinstance(day, int) else self.assertEqual(caught.exception.day, day)
        self.assertEqual(state(book), before)

    def test_by_names(self):
        refused(self, NoDay, "day", 1, lambda first, last: plan_ahead(Wants(), Book(), first, last), last=1, first=2)


if __name__ == "__main__":
    unittest.main()
