"""Turns: points [15] to [17], and [3] of the credits."""

import copy
import math
import random
import unittest
from fractions import Fraction

from rideturns.errors import NoName, NoRule
from rideturns.folk import Person
from rideturns.rides import Ride
from rideturns.shares import Share, total
from rideturns.turns import Turns
from rideturns.wants import Wants
from tests.things import NO_NAMES, NO_TUPLES, NO_WHOLES, THINGS, refused

NAMES = ["ann", "bob", "cid", "dan", "eve", "fay", "gus", "hal"]
THREE = ("ann", "bob", "cid")


class Model:
    """Turns again, kept as rows of days that are gone, by fractions of Python's own."""

    def __init__(self, rule):
        self.rule = rule
        self.order = list(rule[1])
        self.days = []
        self.drove = []

    def credit(self, name):
        worth = Fraction(0)
        for day, driver in zip(self.days, self.drove):
            if name in day:
                worth += (driver == name) - Fraction(1, len(day))
        return worth

    def line(self):
        """Those who never drove in company, as in the order, then the others by their last such drives."""
        last = {driver: at for at, (day, driver) in enumerate(zip(self.days, self.drove)) if len(day) > 1}
        return tuple(sorted(self.order, key=lambda name: (last.get(name, -1), self.order.index(name))))

    def rode(self, day):
        return sum([set(day) == set(other) for other in self.days])

    def who(self, day):
        names = sorted(day, key=self.order.index)
        if self.rule[0] == "longest":
            return min(names, key=self.line().index)
        if self.rule[0] == "rounds":
            return names[self.rode(day) % len(names)]
        grain = self.rule[2]
        worths = [self.credit(name) if grain == 0 else math.floor(self.credit(name) * grain) for name in names]
        return names[worths.index(min(worths))]

    def ride(self, day):
        driver = self.who(day)
        self.days.append(list(day))
        self.drove.append(driver)
        return driver

    def memory(self):
        if self.rule[0] == "longest":
            return self.line()
        if self.rule[0] == "least":
            return tuple([share(self.credit(name)) for name in self.order])
        sets = {tuple(sorted(day, key=self.order.index)) for day in self.days}
        told = [(names, self.rode(names) % len(names)) for names in sets if len(names) > 1]
        return tuple(sorted([(names, many) for names, many in told if many]))


def share(worth):
    return Share(worth.numerator, worth.denominator)


def rules_of(order):
    order = tuple(order)
    return [("longest", order), ("rounds", order)] + [("least", order, grain) for grain in [0, 1, 2, 3, 5, 7, 12, 1000]]


def all_told(turns):
    return (turns.stands(), turns.drives(), turns.memory(), len(turns))


def gone(rule, row):
    turns = Turns(rule)
    for day in row:
        turns.ride(day)
    return turns


class Made(unittest.TestCase):
    def test_at_first(self):
        for many in range(1, 9):
            for rule in rules_of(NAMES[:many]):
                for turns in [Turns(rule), Turns(rule=rule)]:
                    self.assertEqual(turns.stands(), {name: Share(0) for name in NAMES[:many]})
                    self.assertEqual(turns.drives(), {name: 0 for name in NAMES[:many]})
                    self.assertEqual(len(turns), 0)
                    first = {"longest": rule[1], "rounds": (), "least": tuple([Share(0)] * many)}[rule[0]]
                    self.assertEqual(turns.memory(), first)

    def test_no_rule(self):
        order = ("ann", "bob")
        wrong = THINGS + [(thing, order) for thing in THINGS] + [("rounds", thing) for thing in NO_TUPLES]
        wrong += [("least", thing, 0) for thing in NO_TUPLES] + [("least", order, thing) for thing in NO_WHOLES]
        wrong += [("longest", ("ann", thing)) for thing in NO_NAMES]
        wrong += [("least", order, -1), ("least", order, 1001), ("least", order), ("least", order, 0, 0),
                  ("longest", order, 0), ("rounds", ()), ("rounds", tuple(NAMES) + ("ida",)), ("rounds", ("ann", "ann")),
                  ["rounds", order], ("rounds", ["ann", "bob"])]
        for thing in wrong:
            refused(self, NoRule, "thing", thing, Turns, thing)
            refused(self, NoRule, "thing", thing, Turns, rule=thing)


class Driven(unittest.TestCase):
    def test_least(self):
        turns = Turns(("least", ("cid", "ann", "bob"), 0))
        self.assertEqual(turns.ride(["ann", "bob"]), "ann")
        self.assertEqual(turns.ride(["ann", "cid", "bob"]), "bob")
        self.assertEqual(turns.stands(), {"ann": Share(1, 6), "bob": Share(1, 6), "cid": Share(-1, 3)})
        self.assertEqual(turns.memory(), (Share(-1, 3), Share(1, 6), Share(1, 6)))
        self.assertEqual(turns.ride(["bob", "ann"]), "ann")
        self.assertEqual(turns.ride(["bob", "ann", "cid"]), "cid")
        self.assertEqual(turns.memory(), (Share(1, 3), Share(1, 3), Share(-2, 3)))
        self.assertEqual(turns.drives(), {"ann": 2, "bob": 1, "cid": 1})

    def test_alike_credits(self):
        for order in [THREE, ("cid", "bob", "ann"), ("bob", "ann", "cid")]:
            for grain in [0, 1, 6, 1000]:
                for day in [["ann", "bob", "cid"], ["cid", "ann"], ["cid", "bob"], ["bob", "ann"]]:
                    first = [name for name in order if name in day][0]
                    self.assertEqual(Turns(("least", order, grain)).ride(day), first)
                    self.assertEqual(Turns(("least", order, grain)).ride(day[::-1]), first)

    def test_grains_by_which_credits_count_as_alike(self):
        row = [["bob", "cid"], ["ann", "bob", "cid"], ["ann", "cid"]]
        turns = gone(("least", THREE, 0), row)
        self.assertEqual(turns.stands(), {"ann": Share(1, 6), "bob": Share(1, 6), "cid": Share(-1, 3)})
        for grain, driver in [(0, "cid"), (1, "cid"), (2, "cid"), (1000, "cid")]:
            self.assertEqual(gone(("least", THREE, grain), row[:1]).who(["ann", "cid"]), driver)
        # ann has nought, bob a half: alike by grain 1, unlike by grain 2.
        for grain, driver in [(0, "ann"), (1, "bob"), (2, "ann"), (3, "ann")]:
            self.assertEqual(gone(("least", ("bob", "cid", "ann"), grain), row[:1]).who(["ann", "bob"]), driver)

    def test_credits_below_nought_with_a_grain(self):
        order = ("cid", "ann", "dan", "bob")
        turns = gone(("least", order, 1), [["bob", "cid", "dan"]])
        self.assertEqual(turns.memory(), (Share(2, 3), Share(0), Share(-1, 3), Share(-1, 3)))
        # The whole of -1/3 is -1, so nought isn't alike to it, but 2/3 is alike to nought.
        self.assertEqual(turns.who(["ann", "bob"]), "bob")
        self.assertEqual(turns.who(["ann", "cid"]), "cid")
        # dan has -1/3, bob -1/2 behind these.
        row = [["ann", "dan", "cid"], ["bob", "ann"]]
        for grain, driver in [(0, "bob"), (1, "dan"), (2, "dan"), (3, "bob"), (4, "dan"), (5, "bob"), (6, "bob"), (7, "bob")]:
            turns = gone(("least", order, grain), row)
            self.assertEqual(turns.memory(), (Share(2, 3), Share(1, 6), Share(-1, 3), Share(-1, 2)))
            self.assertEqual(turns.who(["bob", "dan"]), driver)

    def test_the_product_is_taken_ahead_of_the_whole(self):
        # Twice a half is whole, twice a third isn't: 2/3 and 1/2 are alike by grain 2, and 1/3 is alike to nought.
        turns = gone(("least", ("ann", "bob", "cid", "dan"), 2), [["ann", "bob", "cid"], ["bob", "dan"]])
        self.assertEqual(turns.stands(), {"ann": Share(2, 3), "bob": Share(1, 6), "cid": Share(-1, 3), "dan": Share(-1, 2)})
        self.assertEqual(turns.who(["dan", "cid"]), "cid")
        self.assertEqual(gone(("least", ("ann", "bob", "cid", "dan"), 3), [["ann", "bob", "cid"], ["bob", "dan"]])
                         .who(["dan", "cid"]), "dan")

    def test_the_line(self):
        turns = Turns(("longest", ("cid", "ann", "bob")))
        told = []
        for day in [["ann", "bob"], ["cid"], ["bob", "ann"], ["ann", "bob", "cid"], ["cid", "ann"], ["bob"], ["cid", "bob"]]:
            told.append((turns.ride(day), turns.memory()))
        self.assertEqual(told, [
            ("ann", ("cid", "bob", "ann")), ("cid", ("cid", "bob", "ann")), ("bob", ("cid", "ann", "bob")),
            ("cid", ("ann", "bob", "cid")), ("ann", ("bob", "cid", "ann")), ("bob", ("bob", "cid", "ann")),
            ("bob", ("cid", "ann", "bob")),
        ])
        self.assertEqual(turns.drives(), {"ann": 2, "bob": 3, "cid": 2})

    def test_rounds_side_by_side(self):
        turns = Turns(("rounds", ("cid", "ann", "bob")))
        told = []
        for day in [["ann", "bob"], ["ann", "bob", "cid"], ["bob", "ann"], ["bob", "cid", "ann"], ["cid"], ["cid", "ann"],
                    ["bob", "ann"], ["ann", "cid", "bob"]]:
            told.append((turns.ride(day), turns.memory()))
        pair, three, other = ("ann", "bob"), ("cid", "ann", "bob"), ("cid", "ann")
        self.assertEqual(told, [
            ("ann", ((pair, 1),)), ("cid", ((pair, 1), (three, 1))), ("bob", ((three, 1),)), ("ann", ((three, 2),)),
            ("cid", ((three, 2),)), ("cid", ((other, 1), (three, 2))), ("ann", ((pair, 1), (other, 1), (three, 2))),
            ("bob", ((pair, 1), (other, 1))),
        ])

    def test_a_day_of_one_name(self):
        for rule in rules_of(THREE):
            turns = gone(rule, [["ann", "bob"], ["ann", "cid", "bob"]])
            stands, drives, memory, days = all_told(turns)
            self.assertEqual(turns.who(["cid"]), "cid")
            self.assertEqual(turns.ride(["cid"]), "cid")
            self.assertEqual(all_told(turns), (stands, {**drives, "cid": drives["cid"] + 1}, memory, days + 1))
        for rule in rules_of(("ann",)):
            turns = gone(rule, [["ann"]] * 3)
            memory = {"longest": ("ann",), "rounds": (), "least": (Share(0),)}[rule[0]]
            self.assertEqual(all_told(turns), ({"ann": Share(0)}, {"ann": 3}, memory, 3))

    def test_by_chance(self):
        for seed in range(120):
            chance = random.Random(seed)
            order = chance.sample(NAMES, chance.randint(1, 8))
            rule = chance.choice(rules_of(order))
            turns, model = Turns(rule), Model(rule)
            for _ in range(chance.choice([10, 30])):
                day = chance.sample(order, chance.choice([1, 2, 2, 3, 3, len(order)]) if len(order) > 3 else
                                    chance.randint(1, len(order)))
                kept = list(day)
                before = all_told(turns)
                self.assertEqual(turns.who(day), model.who(day))
                self.assertEqual(turns.who(riders=day[::-1]), model.who(day))
                self.assertEqual(all_told(turns), before)
                self.assertEqual(turns.ride(day), model.ride(day))
                self.assertEqual(day, kept)
                # What is done to the day later changes nothing.
                day.clear()
                self.assertEqual(turns.memory(), model.memory())
                self.assertEqual(turns.stands(), {name: share(model.credit(name)) for name in order})
                self.assertEqual(turns.drives(), {name: model.drove.count(name) for name in order})
                self.assertEqual(len(turns), len(model.days))
                self.assertEqual(total(list(turns.stands().values())), Share(0))

    def test_two_hundred_days_of_eight(self):
        for rule in rules_of(NAMES):
            turns, model = Turns(rule), Model(rule)
            chance = random.Random(3)
            row = [chance.sample(NAMES, chance.randint(1, 8)) for _ in range(200)]
            self.assertEqual([turns.ride(day) for day in row], [model.ride(day) for day in row])
            self.assertEqual(turns.memory(), model.memory())


class Refused(unittest.TestCase):
    def setUp(self):
        row = [["ann", "bob"], ["cid", "ann", "bob"], ["cid"], ["bob", "cid"]]
        self.each = [gone(rule, row) for rule in rules_of(THREE)]

    def nothing_goes_on(self, day, name):
        for turns in self.each:
            before = all_told(turns)
            for call in [turns.who, turns.ride]:
                refused(self, NoName, "name", name, call, day)
                refused(self, NoName, "name", name, call, riders=day)
            self.assertEqual(all_told(turns), before)

    def test_an_empty_day(self):
        self.nothing_goes_on([], None)

    def test_names_that_are_not_in_the_order(self):
        for day, name in [(["dan"], "dan"), (["ann", "dan"], "dan"), (["dan", "ann", "zoe"], "dan"), (["an"], "an"),
                          (["ann", "bob", "cid", "dan"], "dan"), (["ann", "zoe", "dan"], "zoe"), (["Ann"], "Ann")]:
            self.nothing_goes_on(day, name)

    def test_a_name_twice(self):
        for day, name in [(["ann", "ann"], "ann"), (["ann", "bob", "ann"], "ann"), (["bob", "ann", "ann", "bob"], "ann"),
                          (["ann", "ann", "dan"], "ann"), (["ann", "dan", "ann"], "dan"), (["cid", "bob", "bob", None], "bob")]:
            self.nothing_goes_on(day, name)

    def test_things_of_all_kinds_in_a_day(self):
        for thing in [thing for thing in THINGS if thing != "ann"]:
            for day in [[thing], ["ann", thing], [thing, "ann", "dan"], ["cid", "bob", thing, thing], [thing, "ann", "ann"]]:
                self.nothing_goes_on(day, thing)


class Told(unittest.TestCase):
    def test_dicts_are_the_asker_s_own(self):
        for rule in rules_of(THREE):
            turns = gone(rule, [["ann", "bob"], ["cid", "ann", "bob"]])
            before = copy.deepcopy(all_told(turns))
            kept = turns.stands(), turns.drives()
            for _ in range(2):
                turns.stands()["ann"] = Share(9)
                turns.stands().clear()
                turns.drives()["zoe"] = 4
                turns.drives().clear()
                self.assertEqual(all_told(turns), before)
            turns.ride(["ann", "cid"])
            self.assertEqual(kept, before[:2])

    def test_two_of_the_same_rule_are_apart(self):
        for rule in rules_of(THREE):
            one, other = Turns(rule), Turns(rule)
            one.ride(["ann", "bob"])
            self.assertEqual(all_told(other), all_told(Turns(rule)))
            self.assertFalse(one == other)


class Alike(unittest.TestCase):
    def test_equal(self):
        for rule in rules_of(THREE):
            row = [["ann", "bob"], ["cid", "ann", "bob"], ["cid", "bob"]]
            self.assertTrue(Turns(rule) == Turns(copy.deepcopy(rule)))
            self.assertTrue(gone(rule, row) == gone(rule, row))
            self.assertFalse(gone(rule, row) != gone(rule, row))
            # Neither days of one name nor how often one drove are looked at.
            self.assertTrue(gone(rule, row) == gone(rule, [["bob"]] + row + [["cid"]]))
            self.assertTrue(Turns(rule) == gone(rule, [["bob"]] * 4))

    def test_equal_behind_other_rows(self):
        row, other = [["ann", "bob"], ["bob", "ann"]], [["ann", "cid"], ["cid", "ann"], ["bob"]]
        for rule in [("least", THREE, 0), ("rounds", THREE)]:
            self.assertTrue(gone(rule, row) == Turns(rule))
            self.assertTrue(gone(rule, row) == gone(rule, other))
        self.assertFalse(gone(("longest", THREE), row) == Turns(("longest", THREE)))

    def test_unequal(self):
        for rule in rules_of(THREE):
            for row in [[["ann", "bob"]], [["ann", "bob", "cid"]], [["ann", "cid"], ["ann", "cid"], ["bob", "cid"]]]:
                self.assertFalse(gone(rule, row) == Turns(rule))
                self.assertTrue(gone(rule, row) != Turns(rule))

    def test_credits_alike_and_memories_unlike(self):
        rule = ("longest", THREE)
        one, other = gone(rule, [["ann", "bob"], ["ann", "bob"]]), Turns(rule)
        self.assertEqual(one.stands(), other.stands())
        self.assertNotEqual(one.memory(), other.memory())
        self.assertFalse(one == other)

    def test_memories_alike_and_credits_unlike(self):
        rule = ("longest", THREE)
        one = gone(rule, [["ann", "bob"], ["bob", "cid"], ["bob", "cid"]])
        self.assertEqual(one.memory(), THREE)
        self.assertFalse(one == Turns(rule))

    def test_unlike_rules(self):
        rules = rules_of(THREE) + rules_of(("ann", "bob")) + rules_of(("bob", "ann", "cid"))
        for at, rule in enumerate(rules):
            for place, other in enumerate(rules):
                self.assertIs(Turns(rule) == Turns(other), at == place)

    def test_equal_to_nothing_else(self):
        for rule in rules_of(THREE):
            turns = Turns(rule)
            things = THINGS + [rule, list(rule), turns.memory(), turns.stands(), [turns], Share(0), Person("ann"), Wants(),
                               Ride(3, "ann")]
            for thing in things:
                self.assertFalse(turns == thing)
                self.assertFalse(thing == turns)
                self.assertTrue(turns != thing)


if __name__ == "__main__":
    unittest.main()
