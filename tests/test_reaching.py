"""Reaching: point [21], and [3] of how far each can come by "least"."""

import itertools
import random
import unittest

from rideturns.bounds import never_beyond
from rideturns.errors import NoName, NoRule
from rideturns.reaching import SIXTH, farthest, reached
from rideturns.shares import Share
from rideturns.turns import RIDE_PARTS, Turns
from tests.things import NO_NAMES, NO_TUPLES, NO_WHOLES, THINGS, own_lists, refused

THREE = ("ann", "bob", "cid")
ORDERS = [THREE, ("bob", "cid", "ann"), ("ann", "bob"), ("zoe", "ann")]
GRAINS = [0, 1, 2, 3, 4, 5, 6, 7, 8, 11, 12, 500, 999, 1000]
RULES = [("least", order, grain) for order in ORDERS for grain in GRAINS]
NO_LEASTS = THINGS + [
    ("longest", THREE), ("rounds", THREE), ("longest", ("ann", "bob")), ("rounds", ("ann", "bob")), ("least", ("ann",), 0),
    ("least", ("ann", "bob", "cid", "dan"), 0), ("least", tuple("abcdefgh"), 6), ("least", THREE), ("least", THREE, 0, 0),
    ("least", THREE, -1), ("least", THREE, 1001), ("least", list(THREE), 0), ["least", THREE, 0], ("least", ("ann", "ann"), 0),
    ("longest", THREE, 0), ("least", (), 0), ("Least", THREE, 0), ("least", 0, THREE),
] + [(thing, THREE, 0) for thing in THINGS] + [("least", THREE, thing) for thing in NO_WHOLES] + [
    ("least", thing, 0) for thing in NO_TUPLES] + [("least", ("ann", "bob", thing), 0) for thing in NO_NAMES]


def days_of(order):
    return [list(names) for many in range(1, len(order) + 1) for names in itertools.combinations(order, many)]


def gone(rule, row):
    turns = Turns(rule)
    for day in row:
        turns.ride(day)
    return turns


def sixths(turns):
    """The credits taken six times, in the order."""
    told = [share.times(6) for share in turns.stands().values()]
    assert all([share.bottom == 1 for share in told])
    return tuple([share.top for share in told])


def lengths(rule):
    """All that is reached, with the length of a shortest row to it, by going through Turns length by length."""
    found = {sixths(Turns(rule)): 0}
    rows = [[]]
    while rows:
        later = []
        for row in rows:
            for day in days_of(rule[1]):
                told = sixths(gone(rule, row + [day]))
                if told not in found:
                    found[told] = len(row) + 1
                    later.append(row + [day])
        rows = later
    return found


class Reached(unittest.TestCase):
    def test_sixths(self):
        self.assertEqual(SIXTH * 6, RIDE_PARTS)

    def test_two_names(self):
        for grain in GRAINS:
            self.assertEqual(reached(("least", ("bob", "ann"), grain)), [(0, 0), (3, -3)])

    def test_three_names(self):
        self.assertEqual(reached(("least", THREE, 0)), reached(rule=("least", ("cid", "ann", "bob"), 0)))
        self.assertEqual([len(reached(("least", THREE, grain))) for grain in [0, 1, 6, 1000]], [21, 30, 21, 21])

    def test_against_all_rows_of_days(self):
        for rule in RULES:
            self.assertEqual(reached(rule), sorted(lengths(rule)))

    def test_against_each_row_of_five_days(self):
        for grain in [0, 1, 2]:
            rule = ("least", THREE, grain)
            told = reached(rule)
            for row in itertools.product(days_of(THREE)[3:], repeat=5):
                self.assertIn(sixths(gone(rule, row)), told)

    def test_against_long_rows_by_chance(self):
        for rule in RULES:
            chance = random.Random(rule[2])
            told = reached(rule)
            turns = Turns(rule)
            for _ in range(100):
                turns.ride(chance.choice(days_of(rule[1])))
                self.assertIn(sixths(turns), told)

    def test_form(self):
        for rule in RULES:
            told = reached(rule)
            self.assertIsInstance(told, list)
            self.assertEqual(told, sorted(set(told)))
            self.assertIn(tuple([0 for _ in rule[1]]), told)
            for one in told:
                self.assertIs(type(one), tuple)
                self.assertEqual([type(part) for part in one], [int] * len(rule[1]))
                self.assertEqual(sum(one), 0)
            kept = list(told)
            told.clear()
            self.assertEqual(reached(rule), kept)

    def test_within_the_bound(self):
        for rule in RULES:
            owed, owes = never_beyond(len(rule[1]), rule[2])
            for one in reached(rule):
                self.assertFalse(owed.below(Share(max(one), 6)))
                self.assertFalse(owes.below(Share(-min(one), 6)))

    def test_no_rule(self):
        for thing in NO_LEASTS:
            refused(self, NoRule, "thing", thing, reached, thing)
            refused(self, NoRule, "thing", thing, reached, rule=thing)


class Farthest(unittest.TestCase):
    def looked_at(self, rule, name, told, greatest):
        credit, row = told
        self.assertIsInstance(told, tuple)
        self.assertIsInstance(credit, Share)
        self.assertIsInstance(row, list)
        own_lists(self, told)
        self.assertEqual(gone(rule, row).stands()[name], credit)
        place = rule[1].index(name)
        worths = [one[place] for one in reached(rule)]
        self.assertEqual(credit, Share(max(worths) if greatest else min(worths), 6))
        for many in range(len(row)):
            for shorter in itertools.product(days_of(rule[1]), repeat=many) if many < 4 else []:
                self.assertFalse(gone(rule, shorter).stands()[name] == credit)

    def test_each_name_both_ways(self):
        for order in [THREE, ("bob", "ann")]:
            for grain in [0, 1, 2, 6, 7, 1000]:
                rule = ("least", order, grain)
                for name in order:
                    self.looked_at(rule, name, farthest(rule, name), True)
                    self.looked_at(rule, name, farthest(rule, name, False), False)

    def test_shortest(self):
        for rule in RULES:
            found = lengths(rule)
            for place, name in enumerate(rule[1]):
                for owed in [True, False]:
                    credit, row = farthest(rule, name, owed)
                    worth = credit.times(6).whole()
                    self.assertEqual(len(row), min([found[one] for one in found if one[place] == worth]))
                    self.assertEqual(gone(rule, row).stands()[name], credit)

    def test_by_places_and_by_names(self):
        rule = ("least", THREE, 1)
        for told in [farthest(rule, "cid"), farthest(rule, "cid", True), farthest(owed=True, name="cid", rule=rule)]:
            self.assertEqual(told[0], Share(1, 3))
        for told in [farthest(rule, "cid", False), farthest(rule, owed=False, name="cid")]:
            self.assertEqual(told[0], Share(-4, 3))
        self.assertEqual(farthest(("least", ("bob", "ann"), 0), "ann"), (Share(0), []))
        self.assertEqual(farthest(("least", ("bob", "ann"), 0), "bob", False), (Share(0), []))

    def test_rows_are_the_asker_s_own(self):
        told = farthest(("least", THREE, 0), "ann")
        kept = [list(day) for day in told[1]]
        told[1][0].clear()
        told[1].pop()
        self.assertEqual(farthest(("least", THREE, 0), "ann")[1], kept)

    def test_no_name(self):
        for thing in [thing for thing in THINGS if thing != "ann"] + ["zoe", "an", "annn"]:
            for rule in [("least", THREE, 0), ("least", ("ann", "bob"), 1)]:
                refused(self, NoName, "name", thing, farthest, rule, thing)
                refused(self, NoName, "name", thing, farthest, rule, thing, False)
                refused(self, NoName, "name", thing, farthest, owed=True, name=thing, rule=rule)

    def test_no_rule_goes_first(self):
        for thing in NO_LEASTS:
            for name in ["ann", "zoe", None, [], 0]:
                refused(self, NoRule, "thing", thing, farthest, thing, name)
                refused(self, NoRule, "thing", thing, farthest, name=name, rule=thing, owed=False)


if __name__ == "__main__":
    unittest.main()
