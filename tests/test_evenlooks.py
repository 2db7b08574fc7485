"""Looks at papers that bar evenness: point [27]."""

import copy
import itertools
import random
import unittest
from collections import Counter

from rideturns.evening import why_uneven
from rideturns.evenlooks import shows_uneven
from rideturns.shares import Share
from tests.coming import NAMES, bars, can_be_even, wants_of
from tests.test_evening import PAIR, SLACKS, TRIO, by_chance
from tests.things import THINGS, deep


def rising(names):
    """All rising tuples of one or more of the names."""
    names = sorted(names)
    return [some for many in range(1, len(names) + 1) for some in itertools.combinations(names, many)]


class Shows(unittest.TestCase):
    def told(self, standing, days, thing, slack=0):
        before = copy.deepcopy((standing, days, thing))
        told = shows_uneven(standing, days, thing, slack)
        self.assertEqual((standing, days, thing), before)
        self.assertIs(shows_uneven(thing=thing, slack=slack, days=days, standing=standing), told)
        return told

    def test_slack_left_out_is_nought(self):
        standing = {"ann": Share(1, 2), "bob": Share(-1, 2)}
        self.assertIs(shows_uneven(standing, [], ("part", "ann")), True)
        self.assertIs(shows_uneven(standing, [], ("part", "ann"), 0), True)
        self.assertIs(shows_uneven(standing, [], ("part", "ann"), Share(1, 3)), True)
        self.assertIs(shows_uneven(standing, [], ("part", "ann"), Share(1, 2)), False)
        self.assertIs(shows_uneven(thing=("part", "ann"), days=[], standing=standing), True)
        # What is wanted can be had here, so only a slack below nought would let these by.
        even, days = {"ann": Share(0), "bob": Share(0)}, [(PAIR, PAIR)] * 2
        for paper in [("part", "ann"), ("few", ("ann",)), ("few", PAIR), ("crowd", ("ann",)), ("crowd", PAIR)]:
            self.assertIs(shows_uneven(even, days, paper), False)
            self.assertIs(shows_uneven(thing=paper, standing=even, days=days), False)

    def test_part(self):
        # Of one who is owed more than the slack no number from 0 on is near enough.
        standing = {"ann": Share(2), "bob": Share(-2)}
        self.assertIs(self.told(standing, [], ("part", "ann"), 1), True)
        self.assertIs(self.told(standing, [], ("part", "ann"), 2), False)
        self.assertIs(self.told(standing, [], ("part", "bob")), False)
        day = [(TRIO, TRIO)]
        self.assertIs(self.told({}, day, ("part", "cid"), Share(1, 4)), True)
        self.assertIs(self.told({}, day, ("part", "cid"), Share(1, 3)), False)

    def test_few(self):
        standing = {"ann": Share(-1), "bob": Share(1)}
        days = [(PAIR, ("bob",)), (PAIR, PAIR)]
        self.assertIs(self.told(standing, days, ("few", ("ann",))), True)
        self.assertIs(self.told(standing, days, ("few", ("ann", "bob"))), False)
        self.assertIs(self.told(standing, days, ("few", ("ann",)), 1), False)
        self.assertIs(self.told(standing, days, ("few", ("ann",)), Share(1, 2)), True)
        self.assertIs(self.told(standing, days + [(PAIR, ("ann",))], ("few", ("ann",)), Share(1, 2)), False)

    def test_few_counts_each_day_once(self):
        standing = {"ann": Share(-1), "bob": Share(-1), "cid": Share(2)}
        self.assertIs(self.told(standing, [(("ann", "bob", "cid"), ("ann", "bob"))], ("few", ("ann", "bob")), Share(1, 3)), True)
        self.assertIs(self.told(standing, [(("ann", "bob", "cid"), ("ann", "bob"))], ("few", ("ann",)), Share(1, 3)), False)

    def test_crowd(self):
        days = [(PAIR, ("ann",)), (PAIR, ("ann",)), (PAIR, PAIR)]
        self.assertIs(self.told({}, days, ("crowd", ("ann",)), Share(1, 4)), True)
        self.assertIs(self.told({}, days, ("crowd", ("ann",)), Share(1, 2)), False)
        self.assertIs(self.told({}, days, ("crowd", ("bob",)), Share(1, 4)), False)
        self.assertIs(self.told({}, days, ("crowd", ("ann", "bob")), Share(1, 4)), True)

    def test_a_most_is_never_below_nought(self):
        standing = {"ann": Share(5), "bob": Share(-5)}
        days = [(PAIR, ("ann",))]
        self.assertIs(self.told(standing, days, ("crowd", ("ann",))), True)
        # Were the most of ann below nought, these two would be crowded already.
        self.assertIs(self.told(standing, [(PAIR, PAIR)] * 2, ("crowd", ("ann", "bob"))), False)
        # Were the least of ann below nought, bob's own would not be too many.
        self.assertIs(self.told(standing, [(PAIR, PAIR)] * 2, ("few", ("ann", "bob"))), True)

    def test_every_paper_of_few_names(self):
        seen = Counter()
        for seed in range(150):
            standing, days, slack = by_chance(seed)
            names = wants_of(standing, days)
            some = [("part", name) for name in names]
            some += [(kind, tuple_of) for kind in ("few", "crowd") for tuple_of in rising(names)]
            barred = [paper for paper in some if bars(standing, days, paper, slack)]
            for paper in some:
                self.assertIs(self.told(standing, days, paper, slack), paper in barred)
                seen[paper[0], paper in barred] += 1
            self.assertEqual(barred == [], can_be_even(standing, days, slack))
        self.assertEqual(len(seen), 6)
        self.assertGreater(min(seen.values()), 10)

    def test_papers_of_other_days_or_of_another_slack(self):
        told = []
        for seed in range(400):
            chance = random.Random(-seed - 1)
            standing, days, slack = by_chance(seed)
            paper = why_uneven(standing, days, slack)
            if paper is not None:
                other = chance.choice(SLACKS)
                fewer = days[:chance.randint(0, len(days))]
                known = wants_of(standing, fewer)
                fits = all(name in known for name in ([paper[1]] if paper[0] == "part" else paper[1]))
                told.append(self.told(standing, fewer, paper, other))
                self.assertIs(told[-1], fits and bars(standing, fewer, paper, other))
        self.assertGreater(told.count(True), 20)
        self.assertGreater(told.count(False), 20)

    def test_great_numbers(self):
        standing = {"ann": Share(-10 ** 29), "bob": Share(10 ** 29)}
        self.assertIs(self.told(standing, [], ("few", ("ann",)), 10 ** 29 - 1), True)
        self.assertIs(self.told(standing, [], ("few", ("ann",)), 10 ** 29), False)
        self.assertIs(self.told(standing, [], ("part", "bob"), 10 ** 29 - 1), True)
        self.assertIs(self.told(standing, [], ("part", "bob"), Share(10 ** 29)), False)


class NoPapers(unittest.TestCase):
    """A case in which ("part", "bob"), ("few", ("ann",)) and ("crowd", ("bob",)), with more names or fewer, hold."""

    STANDING = {"ann": Share(-9), "bob": Share(9), "cid": Share(0)}
    DAYS = [(("bob", "cid"), ("bob",))]

    def shown(self, thing, slack=1):
        before = copy.deepcopy(thing)
        told = shows_uneven(self.STANDING, self.DAYS, thing, slack)
        self.assertEqual(thing, before)
        return told

    def test_papers(self):
        for paper in [("part", "bob"), ("few", ("ann",)), ("few", ("ann", "bob")), ("few", ("ann", "bob", "cid")),
                      ("few", ("ann", "cid")), ("crowd", ("bob",))]:
            self.assertIs(self.shown(paper), True, paper)

    def test_names_in_another_order_or_twice(self):
        for paper in [("few", ("bob", "ann")), ("few", ("ann", "cid", "bob")), ("few", ("ann", "ann")), ("few", ("ann", "bob", "bob")),
                      ("crowd", ("bob", "bob"))]:
            self.assertIs(self.shown(paper), False, paper)

    def test_no_names_and_names_that_stand_nowhere(self):
        for paper in [("few", ()), ("crowd", ()), ("part", ()), ("few", ("ann", "zoe")), ("crowd", ("bob", "zoe")), ("part", "zoe"),
                      ("part", ""), ("few", ("", "ann")), ("few", ("zoe",)), ("few", ("Ann", "ann"))]:
            self.assertIs(self.shown(paper), False, paper)

    def test_lists_in_the_place_of_tuples(self):
        for paper in [["part", "bob"], ["few", ("ann",)], ("few", ["ann"]), ["few", ["ann"]], ("crowd", ["bob"]), {"few": ("ann",)},
                      ("few", {"ann": True}), ("few", "ann"), ("part", ("bob",)), ("part", ["bob"]), ("crowd", "bob")]:
            self.assertIs(self.shown(paper), False, paper)

    def test_other_words(self):
        for word in ["", "Part", "parts", "few ", "Few", "crowds", "fewer"] + [thing for thing in THINGS]:
            for names in ["bob", "ann", ("ann",), ("bob",), ("ann", "bob")]:
                self.assertIs(self.shown((word, names)), False)

    def test_one_thing_more_or_less(self):
        for paper in [("part",), ("part", "bob", "bob"), ("few",), ("few", ("ann",), ()), ("few", ("ann",), 1), ("crowd", ("bob",), None),
                      (("part", "bob"),), [("part", "bob")], (), ("few", "ann", "bob")]:
            self.assertIs(self.shown(paper), False, paper)

    def test_things_of_all_kinds_at_any_depth(self):
        for thing in THINGS + [deep(tuple, 29), deep(list, 29)]:
            papers = [thing, (thing, thing), ("part", (thing,)), ("few", ("ann", (thing,))), ("few", (thing, "ann")),
                      ("crowd", ("bob", thing)), (thing, ("ann",)), ("few", ((thing,),)), ("few", [thing]), ("few", ("ann",), thing)]
            if thing not in ("ann", "bob"):
                papers += [("part", thing), ("few", thing) if thing != ("ann",) else None, ("crowd", thing), ("crowd", (thing,)),
                           ("few", (thing,))]
            for paper in papers:
                self.assertIs(self.shown(paper), False)

    def test_a_name_of_a_later_day_alone(self):
        days = [(PAIR, PAIR), (("cid",), ("cid",))]
        standing = {"ann": Share(-9), "bob": Share(9)}
        self.assertIs(shows_uneven(standing, days, ("few", ("ann", "bob", "cid"))), True)
        self.assertIs(shows_uneven(standing, days[:1], ("few", ("ann", "bob", "cid"))), False)

    def test_fourteen_names(self):
        standing = {NAMES[0]: Share(-99), NAMES[1]: Share(99)}
        days = [(tuple(NAMES), tuple(NAMES))] * 60
        self.assertIs(shows_uneven(standing, days, ("few", tuple(NAMES))), True)
        self.assertIs(shows_uneven(standing, days, ("few", tuple(NAMES[::-1]))), False)


if __name__ == "__main__":
    unittest.main()
