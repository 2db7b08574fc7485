"""Masks: point [6]."""

import itertools
import unittest

from rideturns.errors import NoNumber, NoText
from rideturns.masks import mask_from, mask_of, mask_text, weekdays
from tests.things import NO_TEXTS, NO_WHOLES, TEXTS, refused

SIGNS = [" "] + [chr(at) for at in range(33, 127) if chr(at) != "%"] + ["\n"]


class Masks(unittest.TestCase):
    def test_texts(self):
        for mask, text in [(0, "00"), (31, "1f"), (127, "7f"), (9, "09"), (10, "0a"), (16, "10"), (96, "60")]:
            self.assertEqual(mask_text(mask), text)
            self.assertEqual(mask_of(text), mask)
        self.assertEqual(mask_text(mask=31), "1f")
        self.assertEqual(mask_of(text="1f"), 31)

    def test_all_there_and_back(self):
        texts = []
        for mask in range(128):
            texts.append(mask_text(mask))
            self.assertEqual(mask_of(texts[-1]), mask)
            self.assertIs(type(mask_of(texts[-1])), int)
            self.assertEqual(mask_from(weekdays(mask)), mask)
            self.assertEqual(sum([2 ** day for day in weekdays(mask)]), mask)
        self.assertEqual(texts, ["0123456789abcdef"[mask // 16] + "0123456789abcdef"[mask % 16] for mask in range(128)])

    def test_all_texts_of_two_signs(self):
        good = {mask_text(mask) for mask in range(128)}
        for one, other in itertools.product(SIGNS, SIGNS):
            if one + other not in good:
                refused(self, NoText, "row", 0, mask_of, one + other)

    def test_other_texts_and_things(self):
        for thing in NO_TEXTS + [text for text in TEXTS if text != "1f" and text != "31"]:
            refused(self, NoText, "row", 0, mask_of, thing)
        for text in ["1", "f", "01f", "1f ", " 1f", "1F", "7F", "80", "ff", "+1", "-1", "1f\n", "\n1f", "0x1f", "1_f", "0" * 9]:
            refused(self, NoText, "row", 0, mask_of, text=text)
        for thing in [("1", "f"), ["1", "f"], {"1": 1, "f": 2}]:
            refused(self, NoText, "row", 0, mask_of, thing)

    def test_weekdays(self):
        self.assertEqual(weekdays(0), [])
        self.assertEqual(weekdays(31), [0, 1, 2, 3, 4])
        self.assertEqual(weekdays(127), [0, 1, 2, 3, 4, 5, 6])
        self.assertEqual(weekdays(mask=96), [5, 6])
        self.assertEqual(weekdays(64 + 4 + 1), [0, 2, 6])

    def test_weekdays_are_the_askers_own(self):
        told = weekdays(3)
        told.append(9)
        self.assertEqual(weekdays(3), [0, 1])

    def test_mask_from(self):
        self.assertEqual(mask_from([]), 0)
        self.assertEqual(mask_from([6]), 64)
        self.assertEqual(mask_from([4, 0, 2]), 21)
        self.assertEqual(mask_from(days=[1, 1, 0, 1, 0]), 3)
        self.assertEqual(mask_from([6, 5, 4, 3, 2, 1, 0, 0]), 127)
        days = [3, 1, 3]
        mask_from(days)
        self.assertEqual(days, [3, 1, 3])

    def test_the_first_that_is_no_weekday(self):
        for thing in NO_WHOLES + [-1, 7, 8, 10 ** 29]:
            refused(self, NoNumber, "thing", thing, mask_from, [thing])
            refused(self, NoNumber, "thing", thing, mask_from, [0, 6, thing, 1])
            refused(self, NoNumber, "thing", thing, mask_from, days=[3, thing, None, 9, "x"])


if __name__ == "__main__":
    unittest.main()
