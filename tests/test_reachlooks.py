"""Looks at tables of credits: point [22]."""

import copy
import random
import unittest

from rideturns.errors import NoRule
from rideturns.reaching import reached
from rideturns.reachlooks import shows_reached
from tests.test_reaching import NO_LEASTS, RULES, THREE
from tests.things import NO_LISTS, NO_TUPLES, NO_WHOLES, THINGS, refused


def led_to(rule, credit, day):
    """The credits, taken six times, behind a day, reckoned by themselves."""
    order, grain = rule[1], rule[2]
    worths = {name: part if grain == 0 else part * grain // 6 for name, part in zip(order, credit)}
    driver = min(day, key=lambda name: (worths[name], order.index(name)))
    return tuple([part - (6 // len(day) if name in day else 0) + (6 if name == driver else 0)
                  for name, part in zip(order, credit)])


def days_of(order):
    pairs = [(one, other) for one in order for other in order if one < other]
    return pairs + ([order] if len(order) == 3 else [])


def with_all_behind(rule, credit):
    """These credits with all to which they lead."""
    found = [credit]
    for one in found:
        for day in days_of(rule[1]):
            behind = led_to(rule, one, day)
            if behind not in found:
                found.append(behind)
    return found


class Shows(unittest.TestCase):
    def told(self, rule, thing):
        before = copy.deepcopy(thing)
        told = shows_reached(rule, thing)
        self.assertEqual(thing, before)
        self.assertIs(shows_reached(thing=thing, rule=rule), told)
        return told

    def test_what_reached_tells(self):
        for rule in RULES:
            table = reached(rule)
            self.assertIs(self.told(rule, table), True)
            random.Random(1).shuffle(table)
            self.assertIs(self.told(rule, table), True)
            self.assertIs(self.told(rule, with_all_behind(rule, tuple([0] * len(rule[1])))), True)

    def test_one_out(self):
        for rule in RULES:
            table = reached(rule)
            for at in range(len(table)):
                self.assertIs(self.told(rule, table[:at] + table[at + 1:]), False)

    def test_one_twice(self):
        for rule in RULES:
            table = reached(rule)
            for one in table[::5] + table[-1:]:
                self.assertIs(self.told(rule, table + [one]), False)
                self.assertIs(self.told(rule, [one] + table), False)

    def test_one_more(self):
        for rule in RULES:
            for one in [(60, -60, 0), (1, 1, 1), (-7, 3, 10 ** 6), (0, 0, 6), (10 ** 29, 0, -(10 ** 29))]:
                table = reached(rule)
                more = one[:len(rule[1])]
                inside = all([led_to(rule, more, day) in table for day in days_of(rule[1])]) and more not in table
                self.assertIs(inside, False)
                self.assertIs(self.told(rule, table + [more]), False)

    def test_one_more_with_all_that_it_leads_to(self):
        for rule in RULES:
            for one in [(12, -12, 0), (1, 1, 1), (-7, 3, 20), (0, 0, 6)]:
                table = reached(rule)
                more = [other for other in with_all_behind(rule, one[:len(rule[1])]) if other not in table]
                self.assertIs(self.told(rule, table + more), True)
                self.assertIs(self.told(rule, more + table), True)
                self.assertIs(self.told(rule, table + more[:-1]), len(more) < 2)

    def test_the_noughts_left_out(self):
        for rule in RULES:
            self.assertIs(self.told(rule, []), False)
            # Closed by itself, but without the noughts: these credits never come to be nought together.
            self.assertIs(self.told(rule, with_all_behind(rule, (1, 1, 1)[:len(rule[1])])), False)

    def test_grains_are_looked_at(self):
        self.assertIs(self.told(("least", THREE, 1), reached(("least", THREE, 0))), False)
        self.assertIs(self.told(("least", THREE, 0), reached(("least", THREE, 1))), False)
        self.assertIs(self.told(("least", THREE, 7), reached(("least", THREE, 0))), True)
        self.assertIs(self.told(("least", ("ann", "bob"), 0), reached(("least", THREE, 0))), False)
        self.assertIs(self.told(("least", THREE, 0), reached(("least", ("ann", "bob"), 0))), False)

    def test_other_kinds(self):
        rule = ("least", THREE, 0)
        table = reached(rule)
        at = table.index((0, 0, 0))
        for other in [[0, 0, 0], (0, 0), (0, 0, 0, 0), (False, 0, 0), (0, False, False), ("0", 0, 0), ("000",), "000",
                      ((0, 0, 0),), ([0], 0, 0), (None, 0, 0), {0: 0}, None, 0, ()]:
            self.assertIs(self.told(rule, table[:at] + [other] + table[at + 1:]), False)
            self.assertIs(self.told(rule, table + [other]), False)
        self.assertIs(self.told(rule, tuple(table)), False)
        self.assertIs(self.told(rule, {one: True for one in table}), False)
        self.assertIs(self.told(rule, [table]), False)
        self.assertIs(self.told(rule, [list(one) for one in table]), False)

    def test_truths(self):
        rule = ("least", ("ann", "bob"), 0)
        self.assertIs(self.told(rule, [(0, 0), (3, -3)]), True)
        self.assertIs(self.told(rule, [(False, False), (3, -3)]), False)
        self.assertIs(self.told(rule, [(0, 0), (3, -3), (True, 1)]), False)

    def test_things_of_all_kinds_at_any_depth(self):
        for rule in [("least", THREE, 0), ("least", ("ann", "bob"), 1)]:
            table = reached(rule)
            for thing in THINGS:
                self.assertIs(self.told(rule, thing), False)
                for place in [[thing], (thing,), table + [thing], [thing] + table, table + [[thing]], table + [(thing,)]]:
                    self.assertIs(self.told(rule, place), False)
            for thing in NO_WHOLES:
                for at in range(len(rule[1])):
                    one = tuple([thing if at == place else 0 for place in range(len(rule[1]))])
                    self.assertIs(self.told(rule, table + [one]), False)
            for thing in NO_LISTS + NO_TUPLES:
                self.assertIs(self.told(rule, thing), False)

    def test_no_rule(self):
        for thing in NO_LEASTS:
            for table in [[], [(0, 0), (3, -3)], reached(("least", THREE, 0)), None]:
                refused(self, NoRule, "thing", thing, shows_reached, thing, table)
            refused(self, NoRule, "thing", thing, shows_reached, thing=[], rule=thing)

    def test_by_chance(self):
        for seed in range(300):
            chance = random.Random(seed)
            rule = chance.choice(RULES)
            many = len(rule[1])
            table = with_all_behind(rule, tuple([chance.randint(-5, 5) for _ in range(many)]))
            table = [one for one in table + reached(rule) if chance.random() < 0.99]
            table = list(dict.fromkeys(table)) if chance.random() < 0.9 else table
            chance.shuffle(table)
            closed = all([led_to(rule, one, day) in table for one in table for day in days_of(rule[1])])
            good = closed and len(set(table)) == len(table) and tuple([0] * many) in table
            self.assertIs(self.told(rule, table), good)


if __name__ == "__main__":
    unittest.main()
