"""Looks at papers of rows: point [24]."""

import copy
import random
import unittest

from rideturns.errors import NoRule
from rideturns.parting import alike, parting
from rideturns.partlooks import shows_alike
from tests.test_parting import NO_SMALL_RULES, PAIRS, THREE, TWO, days_of, driven, memories
from tests.things import THINGS, refused

SAME = [pair for pair in PAIRS if alike(*pair) is not None]
UNLIKE = [pair for pair in PAIRS if alike(*pair) is None]
BIG = (("least", THREE, 0), ("least", THREE, 6))


def holds(one, other, rows):
    """What the point says of a list of rows of days, by Turns."""
    if [] not in rows or any([len(day) == 1 for row in rows for day in row]):
        return False
    longer = [row + [day] for row in rows for day in days_of(one[1], 2)]
    if any([driven(one, row) != driven(other, row) for row in rows + longer]):
        return False
    ends = {memories(one, other, row) for row in rows}
    return all([memories(one, other, row) in ends for row in longer])


class Shows(unittest.TestCase):
    def told(self, one, other, thing):
        before = copy.deepcopy(thing)
        told = shows_alike(one, other, thing)
        self.assertEqual(thing, before)
        self.assertIs(shows_alike(thing=thing, other=other, one=one), told)
        return told

    def test_what_alike_tells(self):
        for one, other in SAME:
            paper = alike(one, other)
            self.assertIs(self.told(one, other, paper), True)
            self.assertIs(self.told(other, one, paper), True)
            random.Random(2).shuffle(paper)
            for row in paper:
                for day in row:
                    random.Random(len(paper)).shuffle(day)
            self.assertIs(self.told(one, other, paper), True)

    def test_more_than_is_needed(self):
        for one, other in [BIG, (("longest", THREE), ("longest", THREE)), (("rounds", TWO), ("least", TWO, 0))]:
            paper = alike(one, other)
            self.assertIs(self.told(one, other, paper + paper), True)
            self.assertIs(self.told(one, other, paper + [row + [list(one[1])] for row in paper]), True)
            self.assertIs(self.told(one, other, paper + [[list(one[1])] * 200]), True)

    def test_a_row_out(self):
        for one, other in SAME:
            paper = alike(one, other)
            for at in range(len(paper)):
                left = paper[:at] + paper[at + 1:]
                self.assertIs(self.told(one, other, left), False)
            self.assertIs(self.told(one, other, []), False)

    def test_the_empty_row_out(self):
        # Behind two days of two names all is as at first, but the empty row itself is wanted, too.
        one, other = ("longest", TWO), ("rounds", TWO)
        day = ["bob", "ann"]
        self.assertIs(self.told(one, other, [[], [day]]), True)
        self.assertIs(self.told(one, other, [[day, day], [day]]), False)
        self.assertIs(self.told(one, other, [[day, day], [day], []]), True)
        self.assertIs(self.told(one, other, [[day, day], []]), False)

    def test_days_that_are_none(self):
        for one, other in [BIG, (("longest", TWO), ("rounds", TWO))]:
            paper = alike(one, other)
            for day in [["ann"], [], ["zoe"], ["ann", "zoe"], ["ann", "ann"], ["ann", "bob", "ann"], ["ann", None], ["ann", 1],
                        ("ann", "bob"), "ann", {"ann": 1, "bob": 2}, None, 0, True, [["ann", "bob"]], [("ann", "bob")]]:
                for wrong in [paper + [[day]], [[day]] + paper, paper + [[["ann", "bob"], day]],
                              paper + [[day, ["ann", "bob"]]]]:
                    self.assertIs(self.told(one, other, wrong), False)

    def test_tuples_in_the_place_of_lists(self):
        for one, other in [BIG, (("longest", TWO), ("rounds", TWO))]:
            paper = alike(one, other)
            self.assertIs(self.told(one, other, tuple(paper)), False)
            self.assertIs(self.told(one, other, [tuple(row) for row in paper]), False)
            self.assertIs(self.told(one, other, paper[:-1] + [tuple(paper[-1])]), False)
            self.assertIs(self.told(one, other, paper + [()]), False)
            self.assertIs(self.told(one, other, [[tuple(day) for day in row] for row in paper]), False)

    def test_rows_on_which_the_two_drive_unlike(self):
        for one, other in UNLIKE[::5]:
            for paper in [alike(one, one), alike(other, other), [[]], [[], parting(one, other)],
                          alike(one, one) + [parting(one, other)]]:
                self.assertIs(self.told(one, other, paper), False)

    def test_no_paper_for_rules_that_part(self):
        chance = random.Random(4)
        for one, other in UNLIKE:
            rows = [[chance.choice(days_of(one[1], 2)) for _ in range(chance.randint(0, 4))] for _ in range(40)]
            rows = [row for row in rows if driven(one, row) == driven(other, row)]
            self.assertIs(self.told(one, other, [[]] + rows), False)

    def test_by_chance(self):
        told = []
        for seed in range(250):
            chance = random.Random(seed)
            one, other = chance.choice(SAME if chance.random() < 0.8 else UNLIKE)
            rows = alike(one, other) or alike(one, one)
            rows += [[chance.choice(days_of(one[1], 1 if chance.random() < 0.05 else 2)) for _ in range(chance.randint(0, 5))]
                     for _ in range(chance.randint(0, 25))]
            rows = [row for row in rows if chance.random() < chance.choice([0.6, 0.99, 1])]
            chance.shuffle(rows)
            told.append(self.told(one, other, rows))
            self.assertIs(told[-1], holds(one, other, rows))
        self.assertGreater(told.count(True), 20)
        self.assertGreater(told.count(False), 20)

    def test_things_of_all_kinds_at_any_depth(self):
        for one, other in [(("least", THREE, 0), ("least", THREE, 6)), (("longest", TWO), ("rounds", TWO))]:
            paper = alike(one, other)
            for thing in THINGS:
                self.assertIs(self.told(one, other, thing), False)
                for place in [paper + [[thing]], paper + [[["ann", thing]]], paper + [[["ann", "bob", thing]]], [[thing]],
                              [[], [thing]], [[], [["ann", "bob"], thing]], paper + [(thing,)], paper + [[[thing, thing]]]]:
                    self.assertIs(self.told(one, other, place), False)
                if thing != []:
                    self.assertIs(self.told(one, other, paper + [thing]), False)
                    self.assertIs(self.told(one, other, [thing] + paper), False)


class Refused(unittest.TestCase):
    def test_no_rules(self):
        for thing in NO_SMALL_RULES:
            for paper in [[], [[]], [[], [["ann", "bob"]]], None, thing]:
                refused(self, NoRule, "thing", thing, shows_alike, thing, ("longest", TWO), paper)
                refused(self, NoRule, "thing", thing, shows_alike, thing, [thing], paper)
                refused(self, NoRule, "thing", thing, shows_alike, ("longest", TWO), thing, paper)
                refused(self, NoRule, "thing", thing, shows_alike, thing=paper, other=thing, one=("rounds", THREE))

    def test_other_names(self):
        for one, other in [(("longest", TWO), ("longest", THREE)), (("rounds", THREE), ("rounds", TWO)),
                           (("least", TWO, 0), ("least", ("ann", "cid"), 0)),
                           (("least", THREE, 0), ("longest", ("ann", "bob", "dan")))]:
            for paper in [[], [[]], [[], [["ann", "bob"]]], None, "x"]:
                refused(self, NoRule, "thing", other, shows_alike, one, other, paper)


if __name__ == "__main__":
    unittest.main()
