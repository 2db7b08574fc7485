"""Evening: points [25] to [28]."""

import copy
import random
import time
import unittest
from collections import Counter

from rideturns.errors import Uneven
from rideturns.evening import evened, soonest, wanted, why_uneven
from rideturns.evenlooks import shows_uneven
from rideturns.handing import lots, paid_off, settled
from rideturns.shares import Share
from tests.coming import (NAMES, are_even, bars, can_be_even, credits_by_chance, days_by_chance, evened_out, wants_of,
                          worth)
from tests.things import THINGS, own_lists

PAIR = ("ann", "bob")
TRIO = ("ann", "bob", "cid")
SLACKS = [0, 1, 2, Share(0), Share(1), Share(1, 2), Share(1, 3), Share(2, 3), Share(5, 6), Share(7, 3)]


def by_chance(seed):
    """Credits, days and a slack, few enough that all rows of drivers can be tried."""
    chance = random.Random(seed)
    names = NAMES[:chance.randint(1, 4)]
    return credits_by_chance(chance, names), days_by_chance(chance, names, chance.randint(0, 5)), chance.choice(SLACKS)


class Wanted(unittest.TestCase):
    def test_names_of_the_credits_alone(self):
        self.assertEqual(wanted({"ann": Share(1, 2), "bob": Share(-1, 2), "cid": Share(0)}, []),
                         {"ann": Share(-1, 2), "bob": Share(1, 2), "cid": Share(0)})

    def test_names_of_the_days_alone(self):
        self.assertEqual(wanted({}, [(PAIR, ("bob",)), (TRIO, TRIO)]),
                         {"ann": Share(5, 6), "bob": Share(5, 6), "cid": Share(1, 3)})

    def test_names_of_both(self):
        self.assertEqual(wanted({"ann": Share(1, 2), "dan": Share(-1, 2)}, [(PAIR, PAIR), (PAIR, PAIR), (("cid",), ("cid",))]),
                         {"ann": Share(1, 2), "bob": Share(1), "cid": Share(1), "dan": Share(1, 2)})

    def test_nothing(self):
        self.assertEqual(wanted({}, []), {})

    def test_by_names_in_any_order(self):
        self.assertEqual(wanted(days=[(PAIR, PAIR)], standing={}), {"ann": Share(1, 2), "bob": Share(1, 2)})

    def test_by_chance(self):
        for seed in range(200):
            standing, days, _ = by_chance(seed)
            told = wanted(standing, days)
            self.assertEqual({name: worth(share) for name, share in told.items()}, wants_of(standing, days))
            self.assertEqual(sum(map(worth, told.values())), len(days))

    def test_great_numbers(self):
        share = Share(10 ** 29 + 1, 10 ** 29 - 3)
        told = wanted({"ann": share, "bob": Share(0).less(share)}, [(TRIO, TRIO)])
        self.assertEqual(told, {"ann": Share(1, 3).less(share), "bob": Share(1, 3).plus(share), "cid": Share(1, 3)})


class Even(unittest.TestCase):
    def test_a_day_of_two(self):
        self.assertEqual(evened({"ann": Share(1, 2), "bob": Share(-1, 2)}, [(PAIR, PAIR)]), ["bob"])
        self.assertEqual(evened({"ann": Share(-1, 2), "bob": Share(1, 2)}, [(PAIR, PAIR)]), ["ann"])
        self.assertIsNone(evened({"ann": Share(-1, 2), "bob": Share(1, 2)}, [(PAIR, ("bob",))]))
        self.assertIsNone(evened({}, [(PAIR, PAIR)]))
        self.assertIn(evened({}, [(PAIR, PAIR)], Share(1, 2)), [["ann"], ["bob"]])

    def test_no_days_at_all(self):
        self.assertEqual(evened({}, []), [])
        self.assertEqual(evened({"ann": Share(0)}, []), [])
        self.assertIsNone(evened({"ann": Share(1), "bob": Share(-1)}, []))
        self.assertEqual(evened({"ann": Share(1), "bob": Share(-1)}, [], 1), [])
        self.assertIsNone(evened({"ann": Share(1), "bob": Share(-1)}, [], Share(99, 100)))

    def test_days_of_one_rider(self):
        self.assertEqual(evened({}, [(("ann",), ("ann",))] * 5 + [(("bob",), ("bob",))]), ["ann"] * 5 + ["bob"])
        self.assertIsNone(evened({"ann": Share(1), "bob": Share(-1)}, [(("ann",), ("ann",)), (("bob",), ("bob",))]))

    def test_one_alone_can_drive(self):
        days = [(PAIR, ("ann",)), (PAIR, ("ann",))]
        self.assertIsNone(evened({}, days))
        self.assertEqual(evened({"ann": Share(-1), "bob": Share(1)}, days), ["ann", "ann"])
        self.assertEqual(evened({}, days + [(PAIR, PAIR), (PAIR, PAIR)]), ["ann", "ann", "bob", "bob"])

    def test_days_pass_along_a_way_of_many(self):
        # Each but the first can drive on two neighbouring days only, so one change passes through all of them.
        names = NAMES[:8]
        able = [tuple(names[at:at + 2]) for at in range(7)] + [(names[0],)]
        days = [(tuple(names), pair) for pair in able]
        self.assertEqual(evened({}, days), names[1:] + names[:1])
        self.assertEqual(evened({}, days[::-1]), names[:1] + names[:0:-1])

    def test_slack_left_out_by_place_and_by_name(self):
        standing = {"ann": Share(1, 2), "bob": Share(-1, 2)}
        self.assertIsNone(evened(standing, []))
        self.assertIsNone(evened(standing, [], 0))
        self.assertEqual(evened(standing, [], Share(1, 2)), [])
        self.assertEqual(evened(slack=Share(1, 2), days=[], standing=standing), [])
        self.assertEqual(evened(days=[(PAIR, PAIR)], standing=standing), ["bob"])
        self.assertEqual(why_uneven(standing, []), ("part", "ann"))
        self.assertIsNone(why_uneven(slack=1, days=[], standing=standing))
        self.assertEqual(soonest(days=[], standing=standing), (None, None, [why_uneven(standing, [])]))
        self.assertEqual(soonest(days=[], slack=Share(1, 2), standing=standing), (0, [], []))

    def test_against_all_rows_of_drivers(self):
        kinds = Counter()
        for seed in range(1200):
            standing, days, slack = by_chance(seed)
            before = copy.deepcopy((standing, days, slack))
            drivers = evened(standing, days, slack)
            paper = why_uneven(standing, days, slack)
            self.assertEqual((standing, days, slack), before)
            self.assertEqual(drivers is not None, can_be_even(standing, days, slack))
            self.assertEqual(drivers is not None, paper is None)
            if drivers is None:
                self.is_paper(standing, days, paper, slack)
                kinds[paper[0]] += 1
            else:
                self.assertTrue(are_even(standing, days, drivers, slack))
                self.assertTrue(all(driver in able for (_, able), driver in zip(days, drivers, strict=True)))
                kinds["even"] += 1
        self.assertEqual(set(kinds), {"even", "part", "few", "crowd"})
        self.assertGreater(min(kinds.values()), 15)

    def is_paper(self, standing, days, paper, slack):
        self.assertIs(type(paper), tuple)
        kind, names = paper
        known = set(wants_of(standing, days))
        if kind == "part":
            self.assertIn(names, known)
        else:
            self.assertIs(type(names), tuple)
            self.assertTrue(names and set(names) <= known)
            self.assertEqual(list(names), sorted(set(names)))
        self.assertTrue(bars(standing, days, paper, slack))
        self.assertIs(shows_uneven(standing, days, paper, slack), True)

    def test_each_kind_of_paper(self):
        self.assertEqual(why_uneven({}, [(("ann", "bob"), ("ann",)), (("ann", "bob"), ("ann",))]), ("crowd", ("ann",)))
        self.assertEqual(why_uneven({"ann": Share(-1), "bob": Share(1)}, []), ("part", "bob"))
        self.assertEqual(why_uneven({"ann": Share(-2), "bob": Share(1), "cid": Share(1)}, [], 1), ("few", ("ann",)))
        self.assertIn(why_uneven({}, [(PAIR, PAIR)]), [("part", "ann"), ("part", "bob")])


class Great(unittest.TestCase):
    """Sixty days of fourteen names."""

    def in_a_moment(self, call, *places):
        start = time.monotonic()
        told = call(*places)
        self.assertLess(time.monotonic() - start, 5)
        return told

    def test_where_it_can_be(self):
        for seed in range(6):
            chance = random.Random(seed)
            days = days_by_chance(chance, NAMES, 60)
            drivers = [chance.choice(able) for _, able in days]
            wants = wants_of({}, days)
            # Credits by which these drivers make all even.
            standing = {name: Share(wants[name].numerator, wants[name].denominator).less(Share(drivers.count(name)))
                        for name in wants}
            told = self.in_a_moment(evened, standing, days)
            self.assertTrue(are_even(standing, days, told, 0))
            self.assertTrue(all(driver in able for (_, able), driver in zip(days, told, strict=True)))
            self.assertIsNone(self.in_a_moment(why_uneven, standing, days))

    def test_where_it_cannot_be(self):
        for seed in range(6):
            chance = random.Random(seed)
            days = days_by_chance(chance, NAMES, 60)
            standing = credits_by_chance(chance, NAMES, 5, (1,))
            slack = chance.choice([0, Share(1, 2), 1])
            if self.in_a_moment(evened, standing, days, slack) is None:
                paper = self.in_a_moment(why_uneven, standing, days, slack)
                self.assertTrue(bars(standing, days, paper, slack))
        # All can drive on all days but one who can't, and owes: the paper is found behind passing days about.
        days = [(tuple(NAMES), tuple(NAMES[:13]))] * 60
        self.assertEqual(self.in_a_moment(why_uneven, {}, days, 1), ("few", (NAMES[13],)))
        self.assertIsNone(self.in_a_moment(evened, {}, days, 1))
        crowd = [(tuple(NAMES), tuple(NAMES[:2]))] * 60
        self.assertEqual(self.in_a_moment(why_uneven, {}, crowd, 1), ("crowd", tuple(NAMES[:2])))

    def test_soonest(self):
        for days, slack in [([(tuple(NAMES), tuple(NAMES[:13]))] * 60, Share(1, 14)), ([(tuple(NAMES), tuple(NAMES))] * 60, 0)]:
            standing = evened_out({name: Share(at, 14) for at, name in enumerate(NAMES)})
            told = self.in_a_moment(soonest, standing, days, slack)
            self.assertEqual(len(told[2]), 61 if told[0] is None else told[0])
            for many, paper in enumerate(told[2]):
                self.assertTrue(bars(standing, days[:many], paper, slack))

    def test_great_numbers(self):
        great = Share(10 ** 29)
        standing = {"ann": great, "bob": Share(0).less(great)}
        days = [(PAIR, PAIR)] * 60
        self.assertIn(self.in_a_moment(why_uneven, standing, days), [("part", "ann"), ("few", ("bob",))])
        self.assertEqual(len(self.in_a_moment(evened, standing, days, 10 ** 29)), 60)
        self.assertEqual(self.in_a_moment(evened, standing, days[:1], great.plus(Share(-1, 2))), ["bob"])
        self.assertIsNone(self.in_a_moment(evened, standing, days[:1], great.plus(Share(-2, 3))))
        owing = {"ann": Share(-10 ** 29), "bob": Share(10 ** 29 - 1), "cid": Share(1)}
        self.assertTrue(bars(owing, days, self.in_a_moment(why_uneven, owing, days, 5), 5))


class Soonest(unittest.TestCase):
    def test_all_even_already(self):
        self.assertEqual(soonest({}, [(PAIR, PAIR)]), (0, [], []))
        self.assertEqual(soonest({"ann": Share(0)}, []), (0, [], []))
        self.assertEqual(soonest({"ann": Share(1), "bob": Share(-1)}, [(PAIR, PAIR)], 1), (0, [], []))

    def test_in_the_middle_and_the_last(self):
        standing = {"ann": Share(1), "bob": Share(-1)}
        days = [(PAIR, PAIR), (TRIO, ("cid",)), (PAIR, ("bob",)), (TRIO, TRIO)]
        self.assertEqual(soonest(standing, [(PAIR, PAIR)] * 5)[:2], (2, ["bob", "bob"]))
        self.assertEqual(soonest(standing, [(PAIR, PAIR)] * 2)[:2], (2, ["bob", "bob"]))
        self.assertEqual(soonest(standing, days)[:2], (None, None))
        self.assertEqual(len(soonest(standing, days)[2]), 5)

    def test_none_at_all(self):
        self.assertEqual(soonest({"ann": Share(1), "bob": Share(-1)}, [])[:2], (None, None))
        many, drivers, papers = soonest({"ann": Share(1, 7), "bob": Share(-1, 7)}, [(PAIR, PAIR)] * 4)
        self.assertEqual((many, drivers, len(papers)), (None, None, 5))

    def test_names_of_later_days_alone_are_in_no_paper(self):
        standing = {"dan": Share(1), "eve": Share(-1)}
        days = [(("dan", "eve"), ("eve",)), (TRIO, TRIO), (("fay",), ("fay",)), (("dan", "eve"), ("eve",))]
        many, _, papers = soonest(standing, days)
        self.assertEqual((many, len(papers)), (None, 5))
        for at, paper in enumerate(papers):
            names = [paper[1]] if paper[0] == "part" else paper[1]
            self.assertTrue(set(names) <= set(wants_of(standing, days[:at])))

    def test_by_chance(self):
        ends = Counter()
        for seed in range(400):
            standing, days, slack = by_chance(seed)
            before = copy.deepcopy((standing, days))
            told = soonest(standing, days, slack)
            self.assertEqual((standing, days), before)
            self.assertIs(type(told), tuple)
            many, drivers, papers = told
            fits = [can_be_even(standing, days[:at], slack) for at in range(len(days) + 1)]
            self.assertEqual(many, fits.index(True) if True in fits else None)
            self.assertEqual(len(papers), len(fits) if many is None else many)
            for at, paper in enumerate(papers):
                self.assertTrue(bars(standing, days[:at], paper, slack))
                self.assertIs(shows_uneven(standing, days[:at], paper, slack), True)
            if many is None:
                self.assertIsNone(drivers)
            else:
                self.assertTrue(are_even(standing, days[:many], drivers, slack))
            ends["none" if many is None else "first" if many == 0 else "last" if many == len(days) else "middle"] += 1
        self.assertGreater(min([ends[end] for end in ["none", "first", "last", "middle"]]), 5)


class Refused(unittest.TestCase):
    UNEVEN = [({"ann": Share(1)}, Share(1)), ({"ann": Share(1, 2), "bob": Share(-1, 3)}, Share(1, 6)),
              ({"ann": Share(-1, 10 ** 29)}, Share(-1, 10 ** 29)), ({name: Share(1) for name in NAMES}, Share(14))]

    def test_credits_that_are_not_nought_together(self):
        days = [(PAIR, PAIR)]
        for standing, rest in self.UNEVEN:
            before = copy.deepcopy(standing)
            for call in [
                lambda: wanted(standing, days), lambda: evened(standing, days), lambda: evened(standing, days, Share(50)),
                lambda: why_uneven(standing, days), lambda: soonest(standing, days), lambda: soonest(standing, [], 10 ** 29),
                lambda: shows_uneven(standing, days, ("part", "ann")), lambda: shows_uneven(standing, days, None, 1),
                lambda: paid_off(standing, "ann"), lambda: lots(standing), lambda: settled(standing),
            ]:
                with self.assertRaises(Uneven) as caught:
                    call()
                self.assertIs(type(caught.exception), Uneven)
                self.assertEqual(caught.exception.rest, rest)
                self.assertEqual(standing, before)

    def test_ahead_of_all_else(self):
        for standing, rest in self.UNEVEN:
            for thing in THINGS:
                for call in [
                    lambda: wanted(standing, thing), lambda: evened(standing, thing, thing), lambda: why_uneven(standing, thing, thing),
                    lambda: soonest(standing, thing, thing), lambda: shows_uneven(standing, thing, thing, thing),
                    lambda: paid_off(standing, thing),
                ]:
                    with self.assertRaises(Uneven) as caught:
                        call()
                    self.assertEqual(caught.exception.rest, rest)


class Told(unittest.TestCase):
    """What is told is the asker's own."""

    def test_told_things_changed(self):
        standing = {"ann": Share(1), "bob": Share(-1)}
        days = [(PAIR, PAIR)] * 3
        for call in [lambda: wanted(standing, days), lambda: evened(standing, days, Share(1, 2)),
                     lambda: soonest(standing, days)[1], lambda: soonest(standing, days)[2]]:
            first = call()
            before = copy.deepcopy(first)
            self.assertTrue(first)
            first.clear()
            self.assertEqual(call(), before)
        own_lists(self, soonest(standing, days))
        self.assertEqual((standing, days), ({"ann": Share(1), "bob": Share(-1)}, [(PAIR, PAIR)] * 3))

    def test_handed_in_things_changed(self):
        standing = {"ann": Share(1), "bob": Share(-1)}
        days = [(PAIR, PAIR)] * 3
        told = [wanted(standing, days), soonest(standing, days)]
        before = copy.deepcopy(told)
        standing.clear()
        days.clear()
        self.assertEqual(told, before)


if __name__ == "__main__":
    unittest.main()
