"""Cars: points [10] and [11]."""

import copy
import itertools
import random
import unittest

from rideturns.cars import carries, choose, crews, fewest, lacking
from rideturns.errors import NoName, NoSeats
from rideturns.shares import Share, in_order
from tests.things import THINGS, refused

NAMES = ["ann", "bob", "cid", "dan", "eve", "fay", "gus", "hal"]


def by_chance(seed):
    """Riders in any order, seats of some of them and of others, credits of some of them."""
    chance = random.Random(seed)
    riders = chance.sample(NAMES, chance.randint(0, 8))
    seats = {name: chance.randint(0, chance.choice([2, 5, 9])) for name in NAMES if chance.random() < 0.8}
    pool = [Share(0), Share(1, 2), Share(-1, 3), Share(2, -4), Share(5)]
    standing = {name: chance.choice(pool) for name in NAMES if chance.random() < 0.7}
    return chance, riders, seats, standing


def all_choices(riders, seats, many):
    """All choices of so many places of drivers that carry all, the first one first."""
    for places in itertools.combinations(range(len(riders)), many):
        if sum([seats.get(riders[at], 0) for at in places]) >= len(riders):
            yield places


class Few(unittest.TestCase):
    def test_lacking(self):
        self.assertEqual(lacking([], {}), 0)
        self.assertEqual(lacking([], {"ann": 4}), 0)
        self.assertEqual(lacking(["ann"], {}), 1)
        self.assertEqual(lacking(["ann"], {"ann": 1}), 0)
        self.assertEqual(lacking(["ann", "bob", "cid", "dan"], {"ann": 2, "bob": 1, "eve": 9}), 1)
        self.assertEqual(lacking(["ann", "bob", "cid"], {"ann": 2, "bob": 1}), 0)
        self.assertEqual(lacking(seats={"ann": 9}, riders=["bob", "ann"]), 0)

    def test_fewest(self):
        self.assertEqual(fewest([], {}), 0)
        self.assertEqual(fewest(["ann"], {"ann": 1}), 1)
        self.assertEqual(fewest(["ann", "bob", "cid"], {"ann": 1, "bob": 3, "cid": 1}), 1)
        self.assertEqual(fewest(["ann", "bob", "cid"], {"ann": 1, "bob": 2, "cid": 1}), 2)
        self.assertEqual(fewest(["ann", "bob", "cid"], {"ann": 1, "bob": 1, "cid": 1, "dan": 9}), 3)
        self.assertEqual(fewest(seats={"bob": 2}, riders=["ann", "bob"]), 1)

    def test_seats_lack(self):
        for riders, seats, lack in [
            (["ann"], {}, 1), (["ann", "bob"], {"cid": 9}, 2), (["ann", "bob", "cid", "dan"], {"ann": 2, "bob": 1}, 1),
        ]:
            refused(self, NoSeats, "lack", lack, fewest, riders, seats)
            refused(self, NoSeats, "lack", lack, choose, riders, seats)
            refused(self, NoSeats, "lack", lack, choose, standing={"ann": Share(1)}, seats=seats, riders=riders)

    def test_by_chance(self):
        for seed in range(400):
            _, riders, seats, _ = by_chance(seed)
            before = copy.deepcopy((riders, seats))
            lack = max(0, len(riders) - sum([seats.get(name, 0) for name in riders]))
            self.assertEqual(lacking(riders, seats), lack)
            if lack:
                refused(self, NoSeats, "lack", lack, fewest, riders, seats)
            else:
                least = min([many for many in range(9) if any(True for _ in all_choices(riders, seats, many))])
                self.assertEqual(fewest(riders, seats), least)
            self.assertEqual((riders, seats), before)


class Choose(unittest.TestCase):
    def test_by_names_where_credits_are_alike(self):
        riders = ["dan", "bob", "cid"]
        seats = {"bob": 3, "cid": 3, "dan": 3}
        for told in [choose(riders, seats), choose(riders, seats, None), choose(riders, seats, {}),
                     choose(standing={name: Share(2, 3) for name in riders}, riders=riders, seats=seats)]:
            self.assertEqual(told, ["bob"])

    def test_by_credits(self):
        riders = ["ann", "bob", "cid"]
        seats = {"ann": 4, "bob": 4, "cid": 4}
        self.assertEqual(choose(riders, seats, {"ann": Share(1, 2), "bob": Share(1, 3)}), ["cid"])
        self.assertEqual(choose(riders, seats, {"ann": Share(1, 2), "bob": Share(-1, 3)}), ["bob"])
        self.assertEqual(choose(riders, seats, {"ann": Share(1), "bob": Share(0), "zoe": Share(-9)}), ["bob"])

    def test_as_few_as_can_be_goes_ahead_of_credits(self):
        riders = ["ann", "bob", "cid"]
        self.assertEqual(choose(riders, {"ann": 2, "bob": 2, "cid": 3}, {"cid": Share(9)}), ["cid"])

    def test_the_first_of_two_places(self):
        riders = ["ann", "bob", "cid", "dan", "eve"]
        seats = {"ann": 1, "bob": 2, "cid": 3, "dan": 4}
        self.assertEqual(choose(riders, seats), ["ann", "dan"])
        self.assertEqual(choose(riders, seats, {"ann": Share(1), "dan": Share(2)}), ["bob", "cid"])
        self.assertEqual(choose(riders, seats, {"ann": Share(1), "cid": Share(-1), "bob": Share(3)}), ["cid", "dan"])

    def test_no_riders(self):
        self.assertEqual(choose([], {}), [])
        self.assertEqual(choose([], {"ann": 4}, {"ann": Share(0)}), [])

    def test_by_chance(self):
        for seed in range(600):
            _, riders, seats, standing = by_chance(seed)
            before = copy.deepcopy((riders, seats, standing))
            if lacking(riders, seats):
                refused(self, NoSeats, "lack", lacking(riders, seats), choose, riders, seats, standing)
                continue
            ordered = in_order(riders, standing)
            places = next(all_choices(ordered, seats, fewest(riders, seats)))
            told = choose(riders, seats, standing)
            self.assertEqual(told, sorted([ordered[at] for at in places]))
            self.assertTrue(carries(riders, seats, crews(riders, told, seats)))
            told.append("zoe")
            self.assertEqual((riders, seats, standing), before)

    def test_fourteen_names(self):
        riders = [letter for letter in "nmlkjihgfedcba"]
        seats = {name: 1 for name in riders}
        self.assertEqual(choose(riders, seats), sorted(riders))
        self.assertEqual(choose(riders, {**seats, "n": 9, "m": 5}), ["m", "n"])


class Crews(unittest.TestCase):
    def test_how_they_sit(self):
        riders = ["eve", "dan", "cid", "bob", "ann"]
        seats = {"ann": 9, "bob": 2, "dan": 4}
        self.assertEqual(crews(riders, ["dan", "bob"], seats), [("bob", ("ann",)), ("dan", ("cid", "eve"))])
        self.assertEqual(crews(riders, ["dan", "ann"], seats), [("ann", ("bob", "cid", "eve")), ("dan", ())])
        self.assertEqual(crews(seats=seats, drivers=["ann"], riders=riders), [("ann", ("bob", "cid", "dan", "eve"))])
        self.assertEqual(crews(["ann"], ["ann"], {"ann": 1}), [("ann", ())])
        self.assertEqual(crews([], [], {}), [])

    def test_no_name(self):
        riders = ["ann", "bob", "cid"]
        seats = {"ann": 1, "bob": 0, "zoe": 5}
        for thing in THINGS + ["zoe", "bob", "cid"]:
            if thing != "ann":
                refused(self, NoName, "name", thing, crews, riders, ["ann", thing], seats)
                refused(self, NoName, "name", thing, crews, riders=riders, drivers=[thing, "zoe", None], seats=seats)

    def test_no_seats(self):
        riders = ["ann", "bob", "cid", "dan"]
        refused(self, NoSeats, "lack", 1, crews, riders, ["bob", "ann"], {"ann": 2, "bob": 1, "cid": 9})
        refused(self, NoSeats, "lack", 4, crews, riders, [], {"cid": 9})
        refused(self, NoSeats, "lack", 1, crews, ["ann"], [], {"ann": 1})
        refused(self, NoName, "name", "dan", crews, riders, ["ann", "dan"], {"ann": 1})

    def test_by_chance(self):
        for seed in range(400):
            chance, riders, seats, _ = by_chance(seed)
            drivers = [name for name in riders if seats.get(name, 0) and chance.random() < 0.6]
            chance.shuffle(drivers)
            before = copy.deepcopy((riders, drivers, seats))
            room = sum([seats[name] for name in drivers])
            if room < len(riders):
                refused(self, NoSeats, "lack", len(riders) - room, crews, riders, drivers, seats)
            else:
                told = crews(riders, drivers, seats)
                cars = {name: [] for name in sorted(drivers)}
                for name in sorted(set(riders) - set(drivers)):
                    first = [driver for driver in cars if len(cars[driver]) + 1 < seats[driver]][0]
                    cars[first].append(name)
                self.assertEqual(told, [(driver, tuple(others)) for driver, others in cars.items()])
                told.clear()
            self.assertEqual((riders, drivers, seats), before)


class Carries(unittest.TestCase):
    riders = ["cid", "ann", "bob", "dan"]
    seats = {"ann": 2, "bob": 3, "dan": 0, "zoe": 9}

    def told(self, thing):
        before = copy.deepcopy((self.riders, self.seats, thing))
        told = carries(self.riders, self.seats, thing)
        self.assertEqual((self.riders, self.seats, thing), before)
        return told

    def test_that_carry(self):
        for thing in [
            [("ann", ("cid",)), ("bob", ("dan",))], [("bob", ("dan", "cid")), ("ann", ())],
            [("bob", ("cid", "dan")), ("ann", ())], [("bob", ("dan",)), ("ann", ("cid",))],
        ]:
            self.assertIs(self.told(thing), True)
        self.assertIs(carries([], {}, []), True)
        self.assertIs(carries([], {"ann": 3}, thing=[]), True)
        self.assertIs(carries(thing=[("ann", ())], seats={"ann": 1}, riders=["ann"]), True)

    def test_that_do_not_carry(self):
        for thing in [
            [], [("ann", ("cid",))], [("ann", ("cid",)), ("bob", ())],
            [("ann", ("cid",)), ("bob", ("dan", "cid"))], [("ann", ("cid", "dan")), ("bob", ())],
            [("ann", ("cid",)), ("bob", ("dan",)), ("ann", ())], [("ann", ("ann",)), ("bob", ("dan", "cid"))],
            [("ann", ()), ("bob", ("cid",)), ("dan", ())], [("ann", ()), ("bob", ("dan",)), ("cid", ())],
            [("zoe", ("ann", "bob", "cid", "dan"))], [("ann", ("zoe",)), ("bob", ("dan", "cid"))],
            [("ann", ("cid",)), ("bob", ("dan",)), ("zoe", ())], [("eve", ("ann", "bob", "cid", "dan"))],
        ]:
            self.assertIs(self.told(thing), False, thing)
        self.assertIs(carries([], {"ann": 3}, [("ann", ())]), False)
        self.assertIs(carries(["ann"], {}, [("ann", ())]), False)

    def test_lists_in_the_place_of_tuples(self):
        for thing in [
            (("ann", ("cid",)), ("bob", ("dan",))), [["ann", ("cid",)], ("bob", ("dan",))],
            [("ann", ["cid"]), ("bob", ("dan",))], [("ann", "cid"), ("bob", ("dan",))], {"ann": ("cid",), "bob": ("dan",)},
            [("ann", ("cid",), ()), ("bob", ("dan",))], [("ann",), ("bob", ("dan", "cid"))], [()],
            [("ann", {"cid": 1}), ("bob", ("dan",))], [(("ann",), ("cid",)), ("bob", ("dan",))],
        ]:
            self.assertIs(self.told(thing), False, thing)

    def test_things_of_all_kinds_at_any_depth(self):
        for thing in [thing for thing in THINGS if thing not in ("ann", ())]:
            for place in [thing, [thing], [("ann", ("cid",)), thing], [(thing, ())], [("ann", thing), ("bob", ("dan", "cid"))],
                          [(thing, ("cid",)), ("bob", ("dan",))], [("ann", (thing,)), ("bob", ("dan",))],
                          [("ann", ("cid",)), ("bob", ("dan", thing))], [("ann", ("cid",), thing), ("bob", ("dan",))]]:
                self.assertIs(self.told(place), False)

    def test_by_chance(self):
        for seed in range(600):
            chance, riders, seats, _ = by_chance(seed)
            left = chance.sample(riders, len(riders))
            if left and chance.random() < 0.3:
                left[chance.randrange(len(left))] = chance.choice(NAMES)
            thing = []
            while left:
                many = chance.randint(1, len(left))
                thing.append((left[0], tuple(left[1:many])))
                left = left[many:]
            folk = [name for driver, others in thing for name in (driver,) + others]
            fits = all([1 + len(others) <= seats.get(driver, 0) for driver, others in thing])
            self.assertIs(carries(riders, seats, thing), fits and sorted(folk) == sorted(riders))


if __name__ == "__main__":
    unittest.main()
