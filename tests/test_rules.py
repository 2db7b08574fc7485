"""Rules of turns: point [15]."""

import copy
import itertools
import unittest

from rideturns.rules import is_rule, is_small_rule, row_of, sets_of
from tests.things import NO_NAMES, NO_TUPLES, NO_WHOLES, THINGS, own_lists

NAMES = ("ann", "bob", "cid", "dan", "eve", "fay", "gus", "hal", "ida")


class Rules(unittest.TestCase):
    def told(self, thing):
        before = copy.deepcopy(thing)
        told = is_rule(thing)
        self.assertEqual(thing, before)
        return told

    def test_that_are_rules(self):
        for many in range(1, 9):
            for order in [NAMES[:many], NAMES[:many][::-1]]:
                for rule in [("longest", order), ("rounds", order), ("least", order, 0), ("least", order, 1),
                             ("least", order, 999), ("least", order, 1000)]:
                    self.assertIs(self.told(rule), True, rule)
                    self.assertIs(is_rule(thing=rule), True)
        self.assertIs(is_rule(("longest", ("abcdefgh", "a", "z"))), True)

    def test_orders(self):
        for order in [(), NAMES, NAMES[:3] + ("ann",), ("ann", "ann"), list(NAMES[:3]), ["ann"], "ann", "ab", {"ann": 1},
                      ("Ann",), ("ann", ""), ("ann", "abcdefghi"), (("ann",),), ("ann", ["bob"]), None, 1]:
            for rule in [("longest", order), ("rounds", order), ("least", order, 0)]:
                self.assertIs(self.told(rule), False, rule)

    def test_grains(self):
        order = ("ann", "bob")
        for grain in [-1, 1001, 10 ** 29, -(10 ** 29)] + NO_WHOLES:
            self.assertIs(self.told(("least", order, grain)), False, grain)

    def test_left_out_and_one_too_many(self):
        order = ("ann", "bob")
        for thing in [("least", order), ("least", order, 0, 0), ("least", order, 0, None), ("longest", order, 0),
                      ("rounds", order, 0), ("longest", order, None), ("rounds", order, order), ("longest",), ("least",),
                      ("rounds",), (order,), (order, "longest"), (order, "least", 0), ("least", 0, order), ()]:
            self.assertIs(self.told(thing), False, thing)

    def test_lists_in_the_place_of_the_rule(self):
        order = ("ann", "bob")
        for thing in [["longest", order], ["rounds", order], ["least", order, 0], {"longest": order}, "longest", "least"]:
            self.assertIs(self.told(thing), False, thing)

    def test_kinds(self):
        order = ("ann", "bob")
        for kind in THINGS + ["Least", "least ", "LONGEST", "round", "roundsrounds", ("least",), ["longest"]]:
            self.assertIs(self.told((kind, order)), False)
            self.assertIs(self.told((kind, order, 0)), False)

    def test_things_of_all_kinds_at_any_depth(self):
        for thing in THINGS:
            self.assertIs(self.told(thing), False)
            for place in [[thing], (thing,), (thing, thing), (thing, thing, thing), ((thing,),)]:
                self.assertIs(self.told(place), False)
        for thing in NO_TUPLES + [(), ("ann", 1), ((),)]:
            for rule in [("longest", thing), ("rounds", thing), ("least", thing, 0)]:
                self.assertIs(self.told(rule), False)
        for thing in NO_NAMES:
            for order in [(thing,), ("ann", thing), (thing, "ann", "bob")]:
                for rule in [("longest", order), ("rounds", order), ("least", order, 0)]:
                    self.assertIs(self.told(rule), False)


class Small(unittest.TestCase):
    def test_small_rules(self):
        for many in range(1, 9):
            for rule in [("longest", NAMES[:many]), ("rounds", NAMES[:many]), ("least", NAMES[:many], 3)]:
                self.assertIs(is_small_rule(rule), many in (2, 3))
        for thing in THINGS + [["longest", ("ann", "bob")], ("least", ("ann", "bob")), ("longest", ("ann", "ann"))]:
            self.assertIs(is_small_rule(thing), False)

    def test_sets(self):
        for many in range(1, 9):
            order = NAMES[:many][::-1]
            sets = [names for size in range(2, many + 1) for names in itertools.combinations(order, size)]
            self.assertEqual(sorted(sets_of(order)), sorted(sets))

    def test_rows(self):
        names = ("bob", "ann")
        row = row_of([names, names, ("ann", "cid")])
        self.assertEqual(row, [["bob", "ann"], ["bob", "ann"], ["ann", "cid"]])
        own_lists(self, row)


if __name__ == "__main__":
    unittest.main()
