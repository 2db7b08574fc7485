"""Turns: who drives day by day, by a rule.

What a rule needs to tell the next driver is its memory: by "least" the credits, in the order; by "longest" the
line; by "rounds" tuples (names, many) of the sets that are amid a round. Credits are counted here in parts of a ride,
so that they stay whole numbers, by which memories can be looked up.
"""

from rideturns.errors import NoName
from rideturns.errors import NoRule
from rideturns.rules import is_rule
from rideturns.shares import Share

# One to eight riders each divide it.
RIDE_PARTS = 840


def names_of(order, riders):
    """Tell the riders as they stand in the order, a tuple."""
    return tuple([name for name in order if name in riders])


def first_memory(rule):
    """Tell the memory ahead of all days."""
    if rule[0] == "least":
        return tuple([0 for name in rule[1]])
    if rule[0] == "longest":
        return rule[1]
    return ()


def least_driver(rule, held, names):
    """Tell the first of these names, as in the order, whose credit counts least."""
    grain = rule[2]
    counts = {}
    for name, parts in zip(rule[1], held):
        counts[name] = parts if grain == 0 else parts * grain // RIDE_PARTS
    return min(names, key=lambda one: counts[one])


def driver_by(rule, memory, riders):
    """Tell who drives by the rule on a day, with this memory."""
    names = names_of(rule[1], riders)
    if rule[0] == "least":
        return least_driver(rule, memory, names)
    if rule[0] == "longest":
        return names_of(memory, riders)[0]
    gone = {same: many for same, many in memory}
    return names[gone.get(names, 0)]


def parts_behind(order, held, riders, driver):
    """Tell the credits behind a day, as the credits ahead of it a tuple in the order."""
    behind = []
    for name, parts in zip(order, held):
        fare = RIDE_PARTS // len(riders) if name in riders else 0
        wage = RIDE_PARTS if name == driver else 0
        behind.append(parts - fare + wage)
    return tuple(behind)


def line_behind(line, riders, driver):
    """Tell the line behind a day: who drove goes to its end, but who rode alone stays."""
    if len(riders) == 1:
        return line
    return tuple([name for name in line if name != driver] + [driver])


def rounds_behind(order, rounds, riders):
    """Tell the sets that are amid their round behind a day."""
    names = names_of(order, riders)
    gone = {same: many for same, many in rounds}
    gone[names] = (gone.get(names, 0) + 1) % len(names)
    return tuple(sorted([(same, gone[same]) for same in gone if gone[same] > 0]))


def memory_behind(rule, memory, riders):
    """Tell the memory behind a day."""
    if rule[0] == "rounds":
        return rounds_behind(rule[1], memory, riders)
    driver = driver_by(rule, memory, riders)
    if rule[0] == "least":
        return parts_behind(rule[1], memory, riders, driver)
    return line_behind(memory, riders, driver)


class Turns:
    """A rule and the days that are gone by it."""

    def __init__(self, rule):
        if not is_rule(rule):
            raise NoRule(rule)
        self.rule = rule
        self.held = tuple([0 for name in rule[1]])
        self.kept = first_memory(rule)
        self.past = []

    def __eq__(self, other):
        return (isinstance(other, Turns) and self.rule == other.rule and self.held == other.held
                and self.kept == other.kept)

    def __len__(self):
        return len(self.past)

    def check_riders(self, riders):
        """Refuse a day that isn't one or more unlike names of the order."""
        if len(riders) == 0:
            raise NoName(None)
        for at, name in enumerate(riders):
            if name not in self.rule[1] or name in riders[:at]:
                raise NoName(name)

    def who(self, riders):
        """Tell who would drive; nothing goes on by that."""
        self.check_riders(riders)
        return driver_by(self.rule, self.kept, riders)

    def ride(self, riders):
        """Tell who drives; the day is gone then."""
        driver = self.who(riders)
        self.held = parts_behind(self.rule[1], self.held, riders, driver)
        self.kept = memory_behind(self.rule, self.kept, riders)
        self.past.append(driver)
        return driver

    def stands(self):
        """Tell the credits of all names of the order."""
        return {name: Share(parts, RIDE_PARTS) for name, parts in zip(self.rule[1], self.held)}

    def drives(self):
        """Tell how often each name of the order drove."""
        return {name: self.past.count(name) for name in self.rule[1]}

    def memory(self):
        """Tell what the rule remembers, credits as Shares."""
        if self.rule[0] == "least":
            return tuple([Share(parts, RIDE_PARTS) for parts in self.kept])
        return self.kept
