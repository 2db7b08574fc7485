"""Wants: points [8] and [9]."""

import random
import unittest

from rideturns.errors import NoDay, NoName, NoNumber, Taken
from rideturns.folk import Person
from rideturns.wants import Wants
from tests.things import NO_DAYS, NO_NAMES, NO_WHOLES, refused

LAST = 1000000
NOT_ENTERED = NO_NAMES + ["zoe", "annn"]
NO_MASKS = NO_WHOLES + [-1, 128, 10 ** 29]


def with_ann(day=0, mask=127, seats=4):
    wants = Wants()
    wants.enter(Person("ann", seats, mask), day)
    return wants


class Told(unittest.TestCase):
    def on_days(self, wants, days, first=0, last=40, name="ann"):
        """Just these of the days from first to last are wanted."""
        told = [day for day in range(first, last + 1) if wants.wants(name, day)]
        self.assertEqual(told, list(days))

    def test_none_entered(self):
        wants = Wants()
        self.assertEqual((wants.riders(0), wants.room(LAST)), ([], {}))
        refused(self, NoName, "name", "ann", wants.wants, "ann", 0)

    def test_entering_and_weekdays(self):
        wants = Wants()
        self.assertIsNone(wants.enter(Person("ann")))
        self.on_days(wants, [0, 1, 2, 3, 4, 7, 8, 9, 10, 11], last=13)
        wants.enter(day=9, person=Person("bob", 3, 64))
        self.on_days(wants, [13, 20], last=20, name="bob")
        wants.enter(Person("cid", mask=127), LAST)
        self.assertIs(wants.wants("cid", LAST), True)
        self.assertIs(wants.wants("cid", LAST - 1), False)

    def test_taken(self):
        wants = with_ann()
        for day in [0, 5, None, -1, [], LAST + 1]:
            refused(self, Taken, "name", "ann", wants.enter, Person("ann", 9, 0), day)
        wants.leave("ann", 3)
        refused(self, Taken, "name", "ann", wants.enter, person=Person("ann", 9, 0), day=10)
        refused(self, Taken, "name", "ann", wants.enter, Person("ann"))
        self.on_days(wants, range(4))
        self.assertEqual(wants.room(3), {"ann": 4})

    def test_entering_on_no_day(self):
        wants = Wants()
        for thing in NO_DAYS:
            refused(self, NoDay, "day", thing, wants.enter, Person("ann"), thing)
        refused(self, NoName, "name", "ann", wants.wants, "ann", 0)
        wants.enter(Person("ann"))
        self.assertEqual(wants.riders(0), ["ann"])

    def test_leaving(self):
        wants = with_ann(5)
        self.assertIsNone(wants.leave("ann", 9))
        self.on_days(wants, range(5, 10))
        wants.leave(day=20, name="ann")
        self.on_days(wants, range(5, 21))
        wants.leave("ann", 5)
        self.on_days(wants, [5])
        wants.leave("ann", 4)
        self.on_days(wants, [])
        wants.leave("ann", 0)
        self.on_days(wants, [])
        wants.leave("ann", LAST)
        self.on_days(wants, range(5, 41))
        self.assertIs(wants.wants("ann", LAST), True)

    def test_masks_from_days_on(self):
        wants = with_ann(3, 1)
        self.assertIsNone(wants.weekly("ann", 2, 14))
        self.on_days(wants, [7, 15, 22, 29, 36])
        wants.weekly("ann", 64, 10)
        self.on_days(wants, [7, 13, 15, 22, 29, 36])
        wants.weekly(day=10, mask=4, name="ann")
        self.on_days(wants, [7, 15, 22, 29, 36])
        wants.weekly("ann", 127, 30)
        self.on_days(wants, [7, 15, 22, 29] + list(range(30, 41)))
        wants.weekly("ann", 0, 31)
        self.on_days(wants, [7, 15, 22, 29, 30])

    def test_masks_of_the_day_of_entering_and_ahead_of_it(self):
        wants = with_ann(7, 1)
        wants.weekly("ann", 127)
        wants.weekly("ann", 127, 6)
        self.on_days(wants, [7, 14, 21], last=27)
        wants.weekly("ann", 2, 7)
        self.on_days(wants, [8, 15, 22], last=27)
        at_nought = with_ann(0, 1)
        at_nought.weekly("ann", 2)
        self.on_days(at_nought, [1, 8], last=13)

    def test_days_alone(self):
        wants = with_ann(7, 0)
        self.assertIsNone(wants.only("ann", 9))
        wants.only("ann", 6)
        wants.only("ann", 8, True)
        wants.only(want=False, day=10, name="ann")
        self.on_days(wants, [8, 9])
        wants.weekly("ann", 127, 9)
        self.on_days(wants, [8, 9] + list(range(11, 41)))
        wants.only("ann", 9, False)
        wants.only("ann", 10)
        self.on_days(wants, [8] + list(range(10, 41)))
        self.assertIsNone(wants.usual("ann", 8))
        wants.usual(day=9, name="ann")
        self.on_days(wants, range(9, 41))
        wants.usual("ann", 6)
        for day in (6, 8, 9, 7, 11):
            refused(self, NoDay, "day", day, wants.usual, "ann", day)
        wants.usual("ann", 10)
        refused(self, NoDay, "day", 10, wants.usual, "ann", 10)

    def test_days_alone_do_not_outdo_the_bounds(self):
        wants = with_ann(7, 0)
        for day in range(30):
            wants.only("ann", day)
        wants.leave("ann", 20)
        wants.sick("ann", 10, 12)
        self.on_days(wants, [7, 8, 9] + list(range(13, 21)))
        wants.only("ann", 11)
        self.assertIs(wants.wants("ann", 11), False)

    def test_sick(self):
        wants = with_ann()
        self.assertIsNone(wants.sick("ann", 5, 5))
        self.on_days(wants, [0, 1, 2, 3, 4, 6, 7], last=7)
        wants.sick(last=12, first=8, name="ann")
        wants.sick("ann", 10, 20)
        wants.sick("ann", 14, 15)
        self.on_days(wants, [0, 1, 2, 3, 4, 6, 7] + list(range(21, 41)))
        wants.sick("ann", 30, LAST)
        self.on_days(wants, [0, 1, 2, 3, 4, 6, 7] + list(range(21, 30)))
        self.assertIs(wants.wants("ann", LAST), False)

    def test_well(self):
        for day in [0, 9, 10, 11, 15, 20, 21, 40, LAST]:
            wants = with_ann()
            wants.sick("ann", 10, 20)
            self.assertIsNone(wants.well("ann", day))
            self.on_days(wants, [one for one in range(41) if not 10 <= one <= 20 or one >= day])

    def test_well_of_several_spans_and_spans_behind_it(self):
        wants = with_ann()
        wants.sick("ann", 2, 8)
        wants.sick("ann", 6, LAST)
        wants.sick("ann", 20, 22)
        wants.well(day=7, name="ann")
        self.on_days(wants, [0, 1] + list(range(7, 41)))
        wants.sick("ann", 9, 10)
        self.on_days(wants, [0, 1, 7, 8] + list(range(11, 41)))
        wants.well("ann", 10)
        self.on_days(wants, [0, 1, 7, 8] + list(range(10, 41)))
        wants.well("ann", 30)
        self.on_days(wants, [0, 1, 7, 8] + list(range(10, 41)))
        wants.well("ann", 0)
        self.on_days(wants, range(41))
        self.assertIs(wants.wants("ann", LAST), True)

    def test_the_first_and_the_last_day(self):
        wants = with_ann()
        wants.only("ann", 0, False)
        wants.only("ann", LAST, False)
        self.assertEqual((wants.wants("ann", 0), wants.wants("ann", LAST)), (False, False))
        wants.usual("ann", 0)
        wants.usual("ann", LAST)
        wants.sick("ann", 0, 0)
        wants.sick("ann", LAST, LAST)
        self.assertEqual((wants.wants("ann", 0), wants.wants("ann", LAST)), (False, False))
        wants.well("ann", LAST)
        self.assertEqual((wants.wants("ann", 0), wants.wants("ann", LAST)), (False, True))
        wants.weekly("ann", 0, LAST)
        self.assertEqual((wants.wants("ann", LAST - 1), wants.wants("ann", LAST)), (True, False))

    def test_riders_and_room(self):
        wants = Wants()
        wants.enter(Person("cid", 0, 1))
        wants.enter(Person("ann", 4, 3))
        wants.enter(Person("bob", 9, 2))
        self.assertEqual((wants.riders(0), wants.room(0)), (["ann", "cid"], {"ann": 4, "cid": 0}))
        self.assertEqual((wants.riders(day=1), wants.room(day=1)), (["ann", "bob"], {"ann": 4, "bob": 9}))
        self.assertEqual((wants.riders(2), wants.room(2)), ([], {}))

    def test_answers_are_the_askers_own(self):
        wants = with_ann()
        wants.riders(0).append("bob")
        room = wants.room(0)
        room["ann"] = 9
        room["bob"] = 1
        self.assertEqual((wants.riders(0), wants.room(0)), (["ann"], {"ann": 4}))
        riders, room = wants.riders(0), wants.room(0)
        wants.leave("ann", 0)
        wants.enter(Person("bob"))
        wants.riders(1)
        self.assertEqual((riders, room), (["ann"], {"ann": 4}))

    def test_two_wants_with_the_same_persons(self):
        person = Person("ann", 4, 127)
        one, other = Wants(), Wants()
        one.enter(person)
        other.enter(person, 3)
        one.leave("ann", 5)
        other.weekly("ann", 64, 4)
        one.only("ann", 2, False)
        other.sick("ann", 13, 13)
        self.on_days(one, [0, 1, 3, 4, 5])
        self.on_days(other, [3, 6, 20, 27, 34])
        self.assertEqual(person, Person("ann", 4, 127))

    def test_a_person_is_kept_as_a_copy(self):
        person = Person("ann", 4, 127)
        wants = Wants()
        wants.enter(person)
        person.name, person.seats, person.mask = "bob", 9, 0
        self.assertEqual((wants.riders(0), wants.room(0)), (["ann"], {"ann": 4}))


class Refused(unittest.TestCase):
    def setUp(self):
        self.wants = with_ann(3, 31)
        self.wants.only("ann", 6)
        self.wants.sick("ann", 9, 10)

    def tearDown(self):
        """What was refused has changed nothing."""
        told = [day for day in range(21) if self.wants.wants("ann", day)]
        self.assertEqual(told, [3, 4, 6, 7, 8, 11, 14, 15, 16, 17, 18])
        self.assertEqual(self.wants.room(3), {"ann": 4})

    def test_names_ahead_of_all_else(self):
        wants = self.wants
        for name in NOT_ENTERED:
            for day in [0, -1, None, [5]]:
                refused(self, NoName, "name", name, wants.leave, name, day)
                refused(self, NoName, "name", name, wants.weekly, name, 31, day)
                refused(self, NoName, "name", name, wants.weekly, day=day, mask=128, name=name)
                refused(self, NoName, "name", name, wants.only, name, day)
                refused(self, NoName, "name", name, wants.usual, name, day)
                refused(self, NoName, "name", name, wants.sick, name, day, day)
                refused(self, NoName, "name", name, wants.well, name, day)
                refused(self, NoName, "name", name, wants.wants, name, day)
            refused(self, NoName, "name", name, wants.weekly, name, 31)

    def test_no_days(self):
        wants = self.wants
        for thing in NO_DAYS:
            refused(self, NoDay, "day", thing, wants.leave, "ann", thing)
            refused(self, NoDay, "day", thing, wants.weekly, "ann", 31, thing)
            refused(self, NoDay, "day", thing, wants.weekly, "ann", [128], thing)
            refused(self, NoDay, "day", thing, wants.only, "ann", thing)
            refused(self, NoDay, "day", thing, wants.only, want=False, day=thing, name="ann")
            refused(self, NoDay, "day", thing, wants.usual, "ann", thing)
            refused(self, NoDay, "day", thing, wants.well, "ann", thing)
            refused(self, NoDay, "day", thing, wants.wants, "ann", thing)
            refused(self, NoDay, "day", thing, wants.riders, thing)
            refused(self, NoDay, "day", thing, wants.room, thing)
            refused(self, NoDay, "day", thing, Wants().riders, day=thing)

    def test_sick_days(self):
        wants = self.wants
        for thing in NO_DAYS:
            refused(self, NoDay, "day", thing, wants.sick, "ann", thing, 5)
            refused(self, NoDay, "day", thing, wants.sick, "ann", 5, thing)
            refused(self, NoDay, "day", thing, wants.sick, "ann", thing, ["last"])
            refused(self, NoDay, "day", thing, wants.sick, last=None, first=thing, name="ann")
        refused(self, NoDay, "day", 4, wants.sick, "ann", 5, 4)
        refused(self, NoDay, "day", 0, wants.sick, "ann", LAST, 0)
        refused(self, NoDay, "day", -1, wants.sick, "ann", 5, -1)

    def test_usual_of_a_day_for_which_nothing_is_told(self):
        for day in [0, 3, 5, 7, 9, LAST]:
            refused(self, NoDay, "day", day, self.wants.usual, "ann", day)
        self.wants.enter(Person("bob"), 20)
        refused(self, NoDay, "day", 6, self.wants.usual, "bob", 6)

    def test_no_masks(self):
        for thing in NO_MASKS:
            refused(self, NoNumber, "thing", thing, self.wants.weekly, "ann", thing)
            refused(self, NoNumber, "thing", thing, self.wants.weekly, "ann", thing, 3)
            refused(self, NoNumber, "thing", thing, self.wants.weekly, day=LAST, mask=thing, name="ann")


class Model:
    """One name of Wants, all of whose days are kept one by one."""

    def __init__(self, mask, day, days):
        self.days, self.entered, self.last = days, day, days
        self.masks = [(day, mask)]
        self.single = {}
        self.ill = [False] * days

    def wanted(self, day):
        if day < self.entered or day > self.last or self.ill[day]:
            return False
        if day in self.single:
            return self.single[day]
        start = max([start for start, _ in self.masks if start <= day])
        mask = [mask for told, mask in self.masks if told == start][-1]
        return format(mask, "07b")[6 - day % 7] == "1"


class ByChance(unittest.TestCase):
    def change(self, chance, wants, model, name):
        day, other = chance.randrange(model.days), chance.randrange(model.days)
        deed = chance.choice(["leave", "weekly", "weekly", "only", "usual", "sick", "sick", "well"])
        if deed == "leave":
            wants.leave(name, day)
            model.last = day
        elif deed == "weekly":
            mask = chance.randrange(128)
            wants.weekly(name, mask, day)
            model.masks.append((day, mask))
        elif deed == "only":
            want = chance.random() < 0.5
            wants.only(name, day, want)
            model.single[day] = want
        elif deed == "usual" and day in model.single:
            wants.usual(name, day)
            del model.single[day]
        elif deed == "sick" and day <= other:
            wants.sick(name, day, other)
            model.ill[day:other + 1] = [True] * (other + 1 - day)
        elif deed == "well":
            wants.well(name, day)
            model.ill[day:] = [False] * (model.days - day)

    def test_rows_of_deeds(self):
        for seed in range(60):
            chance = random.Random(seed)
            wants, models = Wants(), {}
            for name in ["dan", "ann", "cid"]:
                mask, day = chance.randrange(128), chance.randrange(15)
                wants.enter(Person(name, len(models), mask), day)
                models[name] = Model(mask, day, 30)
            for _ in range(25):
                name = chance.choice(sorted(models))
                self.change(chance, wants, models[name], name)
                day = chance.randrange(30)
                for one in models:
                    self.assertIs(wants.wants(one, day), models[one].wanted(day))
                riders = sorted([one for one in models if models[one].wanted(day)])
                self.assertEqual(wants.riders(day), riders)
                self.assertEqual(wants.room(day), {one: ["dan", "ann", "cid"].index(one) for one in riders})


if __name__ == "__main__":
    unittest.main()
