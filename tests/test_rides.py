"""Rides: points [12] to [14], and the row of [35] that str tells."""

import random
import unittest
from fractions import Fraction

from rideturns.errors import NoRide
from rideturns.folk import Person
from rideturns.rides import Ride
from rideturns.shares import Share, total
from tests.things import NO_DAYS, NO_LISTS, NO_NAMES, NO_WHOLES, THINGS, refused

NAMES = ["bob", "cid", "dan", "eve", "fay", "gus", "hal", "ida", "joe", "kim", "lea"]
GOOD = {"day": 3, "driver": "ann", "riders": [("cid", 1, 4), ("bob", 0, 2)], "legs": 4, "worth": 10, "late": ["bob"]}
ORDER = ["day", "driver", "legs", "worth", "riders", "late"]
WRONG = {
    "day": NO_DAYS,
    "driver": NO_NAMES,
    "legs": NO_WHOLES + [0, -1, 13, 10 ** 29],
    "worth": NO_WHOLES + [0, -1, 1001, 10 ** 29],
    "riders": [thing for thing in NO_LISTS if thing is not None] + [[thing] for thing in THINGS] + [
        (("bob", 0, 1),), [["bob", 0, 1]], [("bob", 0)], [("bob", 0, 1, 2)], [("bob", 1, 1)], [("bob", 2, 1)],
        [("bob", -1, 1)], [("bob", 0, 5)], [("bob", 4, 5)], [("bob", 4, 4)], [("bob", 0, 1), ("bob", 1, 2)],
        [("bob", 0, 1), ("bob", 0, 1)], [("ann", 0, 1)], [("bob", 0, 1), ("ann", 1, 2)], [(name, 0, 1) for name in NAMES + ["meg"]],
        [("Bob", 0, 1)], [("bob", 0, 1), None],
    ] + [[("bob", thing, 2)] for thing in NO_WHOLES] + [[("bob", 0, thing)] for thing in NO_WHOLES]
    + [[(thing, 0, 2)] for thing in NO_NAMES],
    "late": [thing for thing in NO_LISTS if thing is not None] + [[thing] for thing in THINGS] + [
        ("bob",), {"bob": True}, ["ann"], ["bob", "bob"], ["bob", "zoe"], [("bob", 0, 2)], [["bob"]], ["bob", "cid", "bob"],
        ["cid", None],
    ] + [["bob", thing] for thing in THINGS],
}


def made(ride):
    """All six of a ride."""
    return (ride.day, ride.driver, ride.riders(), ride.legs, ride.worth, ride.late())


def by_chance(seed):
    chance = random.Random(seed)
    legs = chance.randint(1, 12)
    riders = []
    for name in chance.sample(NAMES, chance.randint(0, 11)):
        on = chance.randrange(legs)
        riders.append((name, on, chance.randint(on + 1, legs)))
    late = chance.sample([rider[0] for rider in riders], chance.randint(0, len(riders)))
    return Ride(chance.randint(0, 1000000), chance.choice(["ann", "zoe", "dd"]), riders, legs, chance.randint(1, 1000), late)


class Made(unittest.TestCase):
    def test_defaults(self):
        self.assertEqual(made(Ride(0, "ann")), (0, "ann", [], 1, 1, []))
        self.assertEqual(made(Ride(0, "ann", None, 1, 1, None)), (0, "ann", [], 1, 1, []))
        self.assertEqual(made(Ride(driver="ann", day=1000000)), (1000000, "ann", [], 1, 1, []))
        self.assertEqual(made(Ride(5, "z", [("abcdefgh", 0, 1)])), (5, "z", [("abcdefgh", 0, 1)], 1, 1, []))

    def test_by_places_and_by_names(self):
        told = (3, "ann", [("bob", 0, 2), ("cid", 1, 4)], 4, 10, ["bob"])
        self.assertEqual(made(Ride(3, "ann", [("cid", 1, 4), ("bob", 0, 2)], 4, 10, ["bob"])), told)
        self.assertEqual(made(Ride(**GOOD)), told)
        self.assertEqual(made(Ride(**dict(reversed(GOOD.items())))), told)

    def test_sorted(self):
        ride = Ride(3, "dan", [("eve", 0, 1), ("ann", 1, 2), ("cid", 0, 2)], 2, late=["eve", "ann"])
        self.assertEqual(ride.riders(), [("ann", 1, 2), ("cid", 0, 2), ("eve", 0, 1)])
        self.assertEqual(ride.late(), ["ann", "eve"])
        self.assertEqual(ride.folk(), ["ann", "cid", "dan", "eve"])
        self.assertEqual(len(ride), 4)

    def test_at_the_bounds(self):
        self.assertEqual(Ride(0, "ann", [("bob", 11, 12), ("cid", 0, 12)], legs=12, worth=1000).worth, 1000)
        self.assertEqual(len(Ride(0, "ann", [(name, 0, 1) for name in NAMES], late=list(NAMES))), 12)
        self.assertEqual(len(Ride(0, "ann")), 1)

    def test_each_thing_wrong_alone(self):
        for field, things in WRONG.items():
            for thing in things:
                refused(self, NoRide, "reason", field, Ride, **{**GOOD, field: thing})

    def test_several_things_wrong(self):
        chance = random.Random(5)
        for at, field in enumerate(ORDER):
            for thing in WRONG[field]:
                later = {one: chance.choice(WRONG[one]) for one in ORDER[at + 1:] if chance.random() < 0.7}
                refused(self, NoRide, "reason", field, Ride, **{**GOOD, **later, field: thing})
        places = [WRONG[field][0] for field in ["day", "driver", "riders", "legs", "worth", "late"]]
        refused(self, NoRide, "reason", "day", Ride, *places)

    def test_two_things_wrong_of_each_pair(self):
        for at, field in enumerate(ORDER):
            for other in ORDER[at + 1:]:
                wrong = {**GOOD, other: WRONG[other][-1], field: WRONG[field][-1]}
                refused(self, NoRide, "reason", field, Ride, **wrong)

    def test_late_ones_of_no_riders(self):
        refused(self, NoRide, "reason", "late", Ride, 3, "ann", late=["bob"])
        refused(self, NoRide, "reason", "late", Ride, 3, "ann", late=["ann"])


class Given(unittest.TestCase):
    def test_one_leg(self):
        ride = Ride(3, "ann", [("bob", 0, 1), ("cid", 0, 1)])
        self.assertEqual(ride.parts(), {"ann": Share(1, 3), "bob": Share(1, 3), "cid": Share(1, 3)})
        self.assertEqual(ride.gives(), {"ann": Share(2, 3), "bob": Share(-1, 3), "cid": Share(-1, 3)})

    def test_alone(self):
        ride = Ride(3, "ann", legs=7, worth=30)
        self.assertEqual((ride.parts(), ride.gives()), ({"ann": Share(30)}, {"ann": Share(0)}))

    def test_legs(self):
        ride = Ride(3, "ann", [("cid", 1, 4), ("bob", 0, 2)], 4, 12)
        self.assertEqual(ride.parts(), {"ann": Share(11, 2), "bob": Share(5, 2), "cid": Share(4)})
        self.assertEqual(ride.gives(), {"ann": Share(13, 2), "bob": Share(-5, 2), "cid": Share(-4)})

    def test_late(self):
        ride = Ride(3, "ann", [("bob", 0, 1), ("cid", 0, 1)], late=["cid"])
        self.assertEqual(ride.gives(), {"ann": Share(43, 60), "bob": Share(-17, 60), "cid": Share(-13, 30)})
        self.assertEqual(ride.parts(), {"ann": Share(1, 3), "bob": Share(1, 3), "cid": Share(1, 3)})
        both = Ride(3, "ann", [("bob", 0, 1), ("cid", 0, 1)], 1, 30, ["cid", "bob"])
        self.assertEqual(both.gives(), {"ann": Share(23), "bob": Share(-23, 2), "cid": Share(-23, 2)})
        pair = Ride(3, "ann", [("bob", 0, 1)], 1, 1000, ["bob"])
        self.assertEqual(pair.gives(), {"ann": Share(600), "bob": Share(-600)})

    def test_by_chance(self):
        for seed in range(150):
            ride = by_chance(seed)
            legs, worth, driver = ride.legs, ride.worth, ride.driver
            spans = {driver: (0, legs), **{name: (on, off) for name, on, off in ride.riders()}}
            load = [sum([on <= leg < off for on, off in spans.values()]) for leg in range(legs)]
            parts = {name: sum([Fraction(worth, legs) / load[leg] for leg in range(*spans[name])]) for name in spans}
            gives = {name: (worth if name == driver else 0) - parts[name] for name in spans}
            for late in ride.late():
                for name in spans:
                    fee = Fraction(worth, 10)
                    gives[name] += -fee if name == late else fee / (len(spans) - 1)
            for told, worths in [(ride.parts(), parts), (ride.gives(), gives)]:
                self.assertEqual(sorted(told), sorted(worths))
                for name, share in told.items():
                    self.assertEqual(Fraction(share.top, share.bottom), worths[name])
            self.assertEqual(total(list(ride.parts().values())), Share(worth))
            self.assertEqual(total(list(ride.gives().values())), Share(0))
            self.assertEqual(ride.folk(), sorted(spans))
            self.assertEqual(len(ride), len(spans))


class Kept(unittest.TestCase):
    def setUp(self):
        self.riders = [("cid", 1, 4), ("bob", 0, 2)]
        self.came_late = ["cid", "bob"]
        self.ride = Ride(3, "ann", self.riders, 4, 10, self.came_late)
        self.before = (made(self.ride), self.ride.folk(), self.ride.parts(), self.ride.gives(), str(self.ride))

    def is_as_before(self):
        ride = self.ride
        self.assertEqual((made(ride), ride.folk(), ride.parts(), ride.gives(), str(ride)), self.before)

    def test_what_is_handed_in(self):
        self.assertEqual((self.riders, self.came_late), ([("cid", 1, 4), ("bob", 0, 2)], ["cid", "bob"]))
        self.riders.append(("dan", 0, 1))
        self.riders[0] = ("eve", 0, 4)
        self.came_late.clear()
        self.is_as_before()

    def test_what_is_told(self):
        ride = self.ride
        ride.riders().append(("dan", 0, 1))
        ride.late().clear()
        ride.folk().pop()
        ride.parts()["ann"] = Share(9)
        ride.gives().clear()
        self.is_as_before()

    def test_nobody_is_shared_between_rides(self):
        one, other = Ride(3, "ann"), Ride(3, "ann")
        one.riders().append(("bob", 0, 1))
        one.late().append("bob")
        self.assertEqual(made(other), (3, "ann", [], 1, 1, []))
        self.assertEqual(one, other)


class Alike(unittest.TestCase):
    def test_equal(self):
        turned = {**GOOD, "riders": GOOD["riders"][::-1]}
        self.assertTrue(Ride(**GOOD) == Ride(**turned))
        self.assertFalse(Ride(**GOOD) != Ride(**turned))
        both = {**GOOD, "late": ["bob", "cid"]}
        self.assertTrue(Ride(**both) == Ride(**{**turned, "late": ["cid", "bob"]}))
        self.assertTrue(Ride(3, "ann", [], 1, 1, []) == Ride(3, "ann"))

    def test_unequal(self):
        for field, other in [
            ("day", 4), ("driver", "dan"), ("legs", 5), ("worth", 9), ("late", []), ("late", ["cid"]), ("late", ["bob", "cid"]),
            ("riders", [("bob", 0, 2)]), ("riders", [("cid", 1, 4), ("bob", 0, 3)]), ("riders", [("cid", 0, 4), ("bob", 0, 2)]),
        ]:
            self.assertFalse(Ride(**GOOD) == Ride(**{**GOOD, field: other}))
            self.assertTrue(Ride(**GOOD) != Ride(**{**GOOD, field: other}))

    def test_equal_to_nothing_else(self):
        for ride in [Ride(**GOOD), Ride(1, "ann")]:
            for thing in THINGS + [str(ride), repr(ride), made(ride), list(made(ride)), [ride], GOOD, Share(1), Person("ann")]:
                self.assertFalse(ride == thing)
                self.assertFalse(thing == ride)
                self.assertTrue(ride != thing)

    def test_str(self):
        for ride, row in [
            (Ride(3, "ann", [("cid", 1, 4), ("bob", 0, 2)], 4, 1, ["bob"]), "0000003 ann 4 1: bob 0 2, cid 1 4; late bob"),
            (Ride(0, "ann"), "0000000 ann 1 1"), (Ride(1000000, "z", legs=12, worth=1000), "1000000 z 12 1000"),
            (Ride(12345, "ann", [("bob", 10, 11)], 11, 20), "0012345 ann 11 20: bob 10 11"),
            (Ride(3, "ann", [("cid", 0, 1), ("bob", 0, 1)], late=["cid", "bob"]), "0000003 ann 1 1: bob 0 1, cid 0 1; late bob cid"),
        ]:
            self.assertEqual(str(ride), row)

    def test_repr(self):
        for ride, text in [
            (Ride(3, "ann", [("bob", 0, 1)]), "Ride(3, 'ann', [('bob', 0, 1)], 1, 1, [])"),
            (Ride(0, "ann"), "Ride(0, 'ann', [], 1, 1, [])"),
            (Ride(7, "ann", [("cid", 1, 4), ("bob", 0, 2)], 4, 9, ["cid", "bob"]),
             "Ride(7, 'ann', [('bob', 0, 2), ('cid', 1, 4)], 4, 9, ['bob', 'cid'])"),
        ]:
            self.assertEqual(repr(ride), text)

    def test_repr_makes_an_equal_one(self):
        for seed in range(40):
            ride = by_chance(seed)
            self.assertEqual(eval(repr(ride), {"Ride": Ride}), ride)


if __name__ == "__main__":
    unittest.main()
