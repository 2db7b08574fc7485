"""Parting: points [23] and [24], and [3] of two rules."""

import itertools
import random
import unittest

from rideturns.errors import NoRule
from rideturns.parting import alike, parting
from rideturns.turns import Turns
from tests.things import NO_NAMES, NO_TUPLES, NO_WHOLES, THINGS, own_lists, refused

TWO = ("ann", "bob")
THREE = ("ann", "bob", "cid")
GRAINS = [0, 1, 2, 3, 4, 5, 6, 7, 1000]


def rules_of(order, grains):
    return [("longest", order), ("rounds", order)] + [("least", order, grain) for grain in grains]


PAIRS = [(one, other) for one in rules_of(TWO, GRAINS) for order in [TWO, TWO[::-1]] for other in rules_of(order, GRAINS)]
PAIRS += [(one, other) for one in rules_of(THREE, GRAINS) for other in rules_of(THREE, GRAINS)]
PAIRS += [(one, other) for one in rules_of(("cid", "ann", "bob"), [0, 1, 7])
          for order in itertools.permutations(THREE) for other in rules_of(order, [0, 1, 6])]
NO_SMALL_RULES = THINGS + [
    ("longest", ("ann",)), ("rounds", ("ann",)), ("least", ("ann",), 0), ("longest", ("ann", "bob", "cid", "dan")),
    ("rounds", ("ann", "bob", "cid", "dan")), ("least", tuple("abcdefgh"), 0), ("least", THREE), ("least", THREE, 1001),
    ("least", THREE, -1), ("longest", THREE, 0), ("rounds", list(THREE)), ["rounds", THREE], ("rounds", ("ann", "ann")),
    ("round", THREE), ("longest", ()), ("least", THREE, 0, 0), (THREE, "longest"),
] + [(thing, THREE) for thing in THINGS] + [("longest", thing) for thing in NO_TUPLES] + [
    ("least", TWO, thing) for thing in NO_WHOLES] + [("rounds", ("ann", thing)) for thing in NO_NAMES]


def days_of(order, least=1):
    return [list(names) for many in range(least, len(order) + 1) for names in itertools.combinations(order, many)]


def driven(rule, row):
    turns = Turns(rule)
    return [turns.ride(day) for day in row]


def memories(one, other, row):
    """Both memories behind a row, as a text that can be looked up."""
    told = []
    for rule in (one, other):
        turns = Turns(rule)
        for day in row:
            turns.ride(day)
        told.append(repr(turns.memory()))
    return tuple(told)


def least_length(one, other):
    """The length of a shortest row that parts the two, or None, by going through Turns length by length."""
    found = {memories(one, other, [])}
    rows = [[]]
    while rows:
        later = []
        for row in rows:
            for day in days_of(one[1]):
                if driven(one, row + [day]) != driven(other, row + [day]):
                    return len(row) + 1
                behind = memories(one, other, row + [day])
                if behind not in found:
                    found.add(behind)
                    later.append(row + [day])
        rows = later
    return None


class Parting(unittest.TestCase):
    def test_by_hand(self):
        self.assertEqual([sorted(day) for day in parting(("longest", TWO), ("longest", ("bob", "ann")))], [["ann", "bob"]])
        self.assertIsNone(parting(("longest", TWO), ("rounds", TWO)))
        self.assertIsNone(parting(("longest", TWO), ("least", TWO, 3)))
        self.assertIsNone(parting(("least", THREE, 0), ("least", THREE, 6)))
        self.assertEqual(len(parting(("least", THREE, 0), ("least", THREE, 1))), 2)
        self.assertEqual(len(parting(("longest", THREE), ("rounds", THREE))), 2)
        self.assertEqual(len(parting(other=("longest", THREE), one=("least", THREE, 0))), 2)

    def test_the_same_rule_twice(self):
        for rule in rules_of(TWO, GRAINS) + rules_of(THREE, GRAINS):
            self.assertIsNone(parting(rule, rule))

    def test_rows_part(self):
        for one, other in PAIRS:
            row = parting(one, other)
            if row is None:
                continue
            self.assertIsInstance(row, list)
            own_lists(self, row)
            first, second = driven(one, row), driven(other, row)
            self.assertEqual(first[:-1], second[:-1])
            self.assertNotEqual(first[-1], second[-1])

    def test_no_shorter_row_parts(self):
        for one, other in PAIRS:
            row = parting(one, other)
            self.assertEqual(None if row is None else len(row), least_length(one, other))

    def test_each_shorter_row_by_itself(self):
        for one, other in PAIRS[::7]:
            row = parting(one, other)
            for many in range(4 if row is None else len(row)):
                for shorter in itertools.product(days_of(one[1]), repeat=many):
                    self.assertEqual(driven(one, shorter), driven(other, shorter))

    def test_none_where_long_rows_do_not_part(self):
        chance = random.Random(11)
        for one, other in PAIRS:
            if parting(one, other) is None:
                row = [chance.choice(days_of(one[1])) for _ in range(80)]
                self.assertEqual(driven(one, row), driven(other, row))

    def test_both_ways_about(self):
        for one, other in PAIRS:
            row, back = parting(one, other), parting(other, one)
            self.assertEqual(None if row is None else len(row), None if back is None else len(back))

    def test_rows_are_the_asker_s_own(self):
        one, other = ("longest", THREE), ("rounds", THREE)
        row = parting(one, other)
        kept = [list(day) for day in row]
        row[0].clear()
        row.pop()
        self.assertEqual(parting(one, other), kept)


class Alike(unittest.TestCase):
    def test_where_there_is_a_row(self):
        for one, other in PAIRS:
            self.assertIs(alike(one, other) is None, parting(one, other) is not None)

    def test_by_hand(self):
        paper = alike(("longest", TWO), ("least", TWO, 0))
        self.assertEqual(sorted([[sorted(day) for day in row] for row in paper]), [[], [["ann", "bob"]]])
        self.assertIsNone(alike(("longest", THREE), ("rounds", THREE)))
        self.assertIsNone(alike(other=("longest", TWO), one=("longest", ("bob", "ann"))))
        self.assertIsNotNone(alike(other=("longest", TWO), one=("rounds", TWO)))

    def test_papers(self):
        for one, other in PAIRS:
            paper = alike(one, other)
            if paper is None:
                continue
            self.assertIsInstance(paper, list)
            self.assertIn([], paper)
            own_lists(self, paper)
            ends = {memories(one, other, row) for row in paper}
            for row in paper:
                self.assertLessEqual(len(row), 200)
                self.assertTrue(all([len(day) > 1 for day in row]))
                self.assertEqual(driven(one, row), driven(other, row))
                for day in days_of(one[1], 2):
                    self.assertEqual(driven(one, row + [day]), driven(other, row + [day]))
                    self.assertIn(memories(one, other, row + [day]), ends)

    def test_papers_are_the_asker_s_own(self):
        one, other = ("least", THREE, 0), ("least", THREE, 7)
        paper = alike(one, other)
        kept = [[list(day) for day in row] for row in paper]
        for row in paper:
            for day in row:
                day.clear()
            row.clear()
        paper.clear()
        self.assertEqual(alike(one, other), kept)


class Refused(unittest.TestCase):
    def test_the_first(self):
        for thing in NO_SMALL_RULES:
            for call in [parting, alike]:
                for other in [("longest", THREE), ("longest", TWO), None, [thing], ("longest", ("zoe", "ann"))]:
                    refused(self, NoRule, "thing", thing, call, thing, other)
                refused(self, NoRule, "thing", thing, call, other=("rounds", TWO), one=thing)

    def test_the_second(self):
        for thing in NO_SMALL_RULES:
            for call in [parting, alike]:
                for one in [("longest", THREE), ("least", TWO, 4), ("rounds", ("zoe", "yan"))]:
                    refused(self, NoRule, "thing", thing, call, one, thing)
                    refused(self, NoRule, "thing", thing, call, other=thing, one=one)

    def test_other_names(self):
        for names in [("ann", "dan"), ("dan", "eve"), ("bob", "cid"), THREE, ("cid", "bob", "ann"), ("dan", "eve", "fay")]:
            for other in rules_of(names, [0]):
                for call in [parting, alike]:
                    for one in rules_of(TWO, [3]):
                        refused(self, NoRule, "thing", other, call, one, other)
        for names in [TWO, ("cid", "ann"), ("ann", "bob", "dan"), ("dan", "bob", "cid")]:
            for other in rules_of(names, [0]):
                for call in [parting, alike]:
                    for one in rules_of(THREE, [3]):
                        refused(self, NoRule, "thing", other, call, one, other)
                        refused(self, NoRule, "thing", other, call, other=other, one=one)


if __name__ == "__main__":
    unittest.main()
