"""What a whole number, a name, a day and a mask are: points [2] and [6]."""

import unittest

from rideturns.errors import NoDay
from rideturns.kinds import check_day, check_span, is_between, is_day, is_mask, is_name, is_whole
from tests.things import NO_DAYS, NO_NAMES, NO_WHOLES, refused

WHOLES = [0, 1, -1, 31, 10 ** 29, -(10 ** 29)]


class Kinds(unittest.TestCase):
    def test_whole_numbers(self):
        for thing in WHOLES:
            self.assertIs(is_whole(thing), True)
        for thing in NO_WHOLES:
            self.assertIs(is_whole(thing), False)

    def test_between(self):
        for thing in range(-3, 4):
            self.assertIs(is_between(thing, -1, 2), thing in (-1, 0, 1, 2))
        for thing in NO_WHOLES:
            self.assertIs(is_between(thing, -1, 2), False)

    def test_names(self):
        for thing in ["a", "z", "ann", "abcdefgh", "stuvwxyz", "zzzzzzzz"]:
            self.assertIs(is_name(thing), True)
        for thing in NO_NAMES:
            self.assertIs(is_name(thing), False)

    def test_each_letter_of_a_name(self):
        for at in list(range(32, 127)) + [9, 10, 223, 228, 1072]:
            sign = chr(at)
            for text in [sign, "a" + sign, sign + "z"]:
                self.assertIs(is_name(text), sign in "abcdefghijklmnopqrstuvwxyz")

    def test_days(self):
        for thing in [0, 1, 6, 7, 999999, 1000000]:
            self.assertIs(is_day(thing), True)
            self.assertIsNone(check_day(thing))
        for thing in NO_DAYS:
            self.assertIs(is_day(thing), False)
            refused(self, NoDay, "day", thing, check_day, thing)

    def test_spans(self):
        for first, last in [(0, 0), (3, 3), (3, 4), (0, 1000000), (1000000, 1000000)]:
            self.assertIsNone(check_span(first, last))
        for thing in NO_DAYS:
            refused(self, NoDay, "day", thing, check_span, thing, 3)
            refused(self, NoDay, "day", thing, check_span, 3, thing)
            refused(self, NoDay, "day", thing, check_span, thing, [thing])
        refused(self, NoDay, "day", 3, check_span, 4, 3)

    def test_masks(self):
        for thing in range(-5, 140):
            self.assertIs(is_mask(thing), 0 <= thing <= 127)
        for thing in NO_WHOLES:
            self.assertIs(is_mask(thing), False)


if __name__ == "__main__":
    unittest.main()
