"""Bounds: points [18] to [20], and [3] of them."""

import math
import random
import unittest
from fractions import Fraction

from rideturns.bounds import never_beyond, round_bound, round_row, runaway
from rideturns.errors import NoName, TooMany
from rideturns.rules import sets_of
from rideturns.shares import Share
from rideturns.turns import Turns
from tests.things import THINGS, own_lists, refused

NAMES = ("dan", "ann", "hal", "bob", "gus", "cid", "fay", "eve", "ida")
NO_NAMES_OF_IT = [thing for thing in THINGS if thing != "ann"] + ["zoe", "dann", "da"]


def fraction(share):
    return Fraction(share.top, share.bottom)


def gone(rule, row):
    turns = Turns(rule)
    for day in row:
        turns.ride(day)
    return turns


def are_days(case, row, order):
    """The row is one of days of this order, at most two hundred, each list its own."""
    case.assertIsInstance(row, list)
    case.assertLessEqual(len(row), 200)
    own_lists(case, row)
    for day in row:
        case.assertIsInstance(day, list)
        case.assertTrue(day and len(set(day)) == len(day) and set(day) <= set(order))


class NeverBeyond(unittest.TestCase):
    def test_by_hand(self):
        for told, owed, owes in [
            (never_beyond(1), Share(0), Share(0)), (never_beyond(1, 1), Share(0), Share(0)),
            (never_beyond(2), Share(1, 2), Share(1, 2)), (never_beyond(2, 1), Share(1), Share(1)),
            (never_beyond(3), Share(11, 9), Share(10, 9)), (never_beyond(3, 0), Share(11, 9), Share(10, 9)),
            (never_beyond(3, 1), Share(20, 9), Share(19, 9)), (never_beyond(4), Share(49, 24), Share(43, 24)),
            (never_beyond(3, 1000), Share(11009, 9000), Share(10009, 9000)),
        ]:
            self.assertEqual(told, (owed, owes))
            self.assertIsInstance(told, tuple)

    def test_by_places_and_by_names(self):
        for told in [never_beyond(5, 7), never_beyond(5, grain=7), never_beyond(many=5, grain=7), never_beyond(grain=7, many=5)]:
            self.assertEqual(told, never_beyond(5, 7))
        self.assertEqual(never_beyond(many=5), never_beyond(5, 0))

    def test_sums_reckoned_otherwise(self):
        for many in range(1, 61):
            harmonic = sum([Fraction(1, m) for m in range(1, many + 1)])
            pairs = math.comb(many, 2)
            for grain in [0, 1, 2, 6, 7, 999, 1000]:
                spare = pairs * Fraction(1, 2 * grain) if grain else 0
                owed = Fraction(2, many) * (pairs - (many - 1) + (harmonic - 1) + spare)
                owes = Fraction(2, many) * (pairs + (many - 1) - (many + 1) * (harmonic - 1) + spare)
                told = never_beyond(many, grain)
                self.assertEqual((fraction(told[0]), fraction(told[1])), (owed, owes))

    def within(self, turns, many, grain):
        owed, owes = never_beyond(many, grain)
        for share in turns.stands().values():
            self.assertFalse(owed.below(share))
            self.assertFalse(owes.below(share.times(-1)))

    def test_rows_of_days_by_chance_stay_within(self):
        for seed in range(40):
            chance = random.Random(seed)
            many = chance.randint(1, 8)
            grain = chance.choice([0, 1, 2, 3, 10, 1000])
            turns = Turns(("least", NAMES[:many], grain))
            for _ in range(60):
                turns.ride(chance.sample(NAMES[:many], chance.randint(1, many)))
                self.within(turns, many, grain)

    def test_rows_of_days_that_lead_far_stay_within(self):
        # Each day is one on which the name that is looked at drives with most others, or else others move up to it.
        for many in range(2, 9):
            for grain in [0, 1, 3]:
                for sign in [1, -1]:
                    chance = random.Random(many)
                    turns = Turns(("least", NAMES[:many], grain))
                    name = NAMES[many // 2]
                    for _ in range(80):
                        days = [day for day in sets_of(NAMES[:many]) if (turns.who(day) == name) == (sign == 1)]
                        days = [day for day in days if name in day] if chance.random() < 0.8 else days
                        turns.ride(list(chance.choice(days or [NAMES[:many]])))
                        self.within(turns, many, grain)


class RoundBound(unittest.TestCase):
    def test_by_hand(self):
        order = ("bob", "ann", "cid")
        half, third = Fraction(1, 2), Fraction(1, 3)
        for name, owed, owes in [("bob", 1 + 2 * third, 0), ("ann", half + third, half + third), ("cid", 0, 1 + 2 * third)]:
            told = round_bound(order, name)
            self.assertIsInstance(told, tuple)
            self.assertEqual((fraction(told[0]), fraction(told[1])), (owed, owes))
            self.assertEqual(round_bound(name=name, order=order), told)
        self.assertEqual(round_bound(("ann",), "ann"), (Share(0), Share(0)))

    def test_sums_reckoned_otherwise(self):
        # Each other name is with it in as many sets of each size.
        for many in range(1, 9):
            weight = sum([Fraction(math.comb(many - 2, size - 2), size) for size in range(2, many + 1)])
            for place, name in enumerate(NAMES[:many]):
                owed, owes = round_bound(NAMES[:many], name)
                self.assertEqual((fraction(owed), fraction(owes)), ((many - 1 - place) * weight, place * weight))

    def test_no_name(self):
        for many in [1, 2, 6, 7, 8]:
            for thing in NO_NAMES_OF_IT:
                refused(self, NoName, "name", thing, round_bound, ("ann",) + NAMES[2:many + 1], thing)
                refused(self, NoName, "name", thing, round_bound, name=thing, order=("ann",) + NAMES[2:many + 1])

    def test_no_row_leads_beyond(self):
        for seed in range(30):
            chance = random.Random(seed)
            order = NAMES[:chance.randint(1, 5)]
            bounds = {name: round_bound(order, name) for name in order}
            turns = Turns(("rounds", order))
            for _ in range(80):
                turns.ride(chance.sample(order, chance.randint(1, len(order))))
                for name, share in turns.stands().items():
                    self.assertFalse(bounds[name][0].below(share))
                    self.assertFalse(bounds[name][1].below(share.times(-1)))


class RoundRow(unittest.TestCase):
    def test_rows_come_to_the_very_bound(self):
        for many in range(1, 7):
            for order in [NAMES[:many], NAMES[:many][::-1], tuple(sorted(NAMES[:many]))]:
                for name in order:
                    owed, owes = round_bound(order, name)
                    for row in [round_row(order, name), round_row(order, name, True), round_row(owed=True, name=name, order=order)]:
                        are_days(self, row, order)
                        self.assertEqual(gone(("rounds", order), row).stands()[name], owed)
                    for row in [round_row(order, name, False), round_row(order, owed=False, name=name)]:
                        are_days(self, row, order)
                        self.assertEqual(gone(("rounds", order), row).stands()[name], owes.times(-1))

    def test_rows_are_the_asker_s_own(self):
        row = round_row(("ann", "bob", "cid"), "bob")
        kept = [list(day) for day in row]
        row[0].clear()
        row.pop()
        self.assertEqual(round_row(("ann", "bob", "cid"), "bob"), kept)

    def test_too_many(self):
        for many in [7, 8]:
            for name in NAMES[:many] + ("zoe",):
                for owed in [True, False]:
                    refused(self, TooMany, "most", 6, round_row, NAMES[:many], name, owed)
                refused(self, TooMany, "most", 6, round_row, name=name, order=NAMES[:many])
            for thing in THINGS:
                refused(self, TooMany, "most", 6, round_row, NAMES[:many], thing)

    def test_no_name(self):
        for many in range(1, 7):
            for thing in NO_NAMES_OF_IT:
                refused(self, NoName, "name", thing, round_row, ("ann",) + NAMES[2:many + 1], thing)
                refused(self, NoName, "name", thing, round_row, ("ann",) + NAMES[2:many + 1], thing, False)


class Runaway(unittest.TestCase):
    def leads_away(self, order, name, told, sign):
        self.assertIsInstance(told, tuple)
        ahead, going, gain = told
        are_days(self, ahead, order)
        are_days(self, going, order)
        own_lists(self, told)
        self.assertGreaterEqual(len(going), 1)
        self.assertIsInstance(gain, Share)
        self.assertGreater(gain.top * sign, 0)
        turns = gone(("longest", order), ahead)
        line, credit = turns.memory(), turns.stands()[name]
        for _ in range(5):
            for day in going:
                turns.ride(day)
            credit = credit.plus(gain)
            self.assertEqual(turns.memory(), line)
            self.assertEqual(turns.stands()[name], credit)

    def test_each_name_both_ways(self):
        for many in range(3, 9):
            for order in [NAMES[:many], NAMES[:many][::-1], tuple(sorted(NAMES[:many]))]:
                for name in order:
                    for told in [runaway(order, name), runaway(order, name, True), runaway(owed=True, name=name, order=order)]:
                        self.leads_away(order, name, told, 1)
                    for told in [runaway(order, name, False), runaway(name=name, owed=False, order=order)]:
                        self.leads_away(order, name, told, -1)

    def test_fewer_than_three_names(self):
        for order in [("ann",), ("ann", "bob"), ("bob", "ann")]:
            for name in order:
                self.assertIsNone(runaway(order, name))
                self.assertIsNone(runaway(order, name, True))
                self.assertIsNone(runaway(order, name, owed=False))

    def test_no_name(self):
        for many in range(1, 9):
            for thing in NO_NAMES_OF_IT:
                refused(self, NoName, "name", thing, runaway, ("ann",) + NAMES[2:many + 1], thing)
                refused(self, NoName, "name", thing, runaway, owed=False, name=thing, order=("ann",) + NAMES[2:many + 1])

    def test_rows_are_the_asker_s_own(self):
        for owed in [True, False]:
            told = runaway(NAMES[:4], "ann", owed)
            told[0][0].append("zoe")
            told[1][0].clear()
            told[1].clear()
            self.leads_away(NAMES[:4], "ann", runaway(NAMES[:4], "ann", owed), 1 if owed else -1)


if __name__ == "__main__":
    unittest.main()
