"""The refusals: points [2] and the interface's errors.py."""

import unittest

from rideturns import errors
from tests.things import THINGS

REFUSALS = {
    "NoKind": ("thing", TypeError),
    "Nought": ("top", ZeroDivisionError),
    "NoShare": ("text", ArithmeticError),
    "Uneven": ("rest", ArithmeticError),
    "BadName": ("name", ValueError),
    "NoNumber": ("thing", ValueError),
    "NoRide": ("reason", ValueError),
    "NoText": ("row", ValueError),
    "NoName": ("name", KeyError),
    "NoDay": ("day", LookupError),
    "NoSeats": ("lack", IndexError),
    "TooMany": ("most", OverflowError),
    "Taken": ("name", RuntimeError),
    "NoRule": ("thing", NotImplementedError),
    "NothingDone": ("text", Exception),
    "NoRow": ("text", Exception),
}


class Refusals(unittest.TestCase):
    def test_just_the_sixteen_are_there(self):
        classes = [name for name, worth in vars(errors).items() if isinstance(worth, type)]
        self.assertEqual(sorted(classes), sorted(REFUSALS))
        self.assertEqual(len(classes), 16)

    def test_each_stands_straight_under_its_error(self):
        for name, (_, above) in REFUSALS.items():
            with self.subTest(name):
                self.assertEqual(getattr(errors, name).__bases__, (above,))

    def test_none_stands_under_another_one(self):
        for one in REFUSALS:
            for other in REFUSALS:
                if one != other:
                    self.assertFalse(issubclass(getattr(errors, one), getattr(errors, other)), (one, other))

    def test_the_field_is_the_very_object_by_place_and_by_name(self):
        for name, (field, _) in REFUSALS.items():
            refusal = getattr(errors, name)
            for thing in THINGS:
                self.assertIs(getattr(refusal(thing), field), thing, name)
                self.assertIs(getattr(refusal(**{field: thing}), field), thing, name)

    def test_each_can_be_raised_and_shown(self):
        for name, (field, above) in REFUSALS.items():
            for thing in THINGS:
                with self.assertRaises(above) as caught:
                    raise getattr(errors, name)(thing)
                self.assertIs(getattr(caught.exception, field), thing)
                self.assertIsInstance(str(caught.exception), str)

    def test_the_message_does_not_hang_on_how_it_was_made(self):
        for name, (field, _) in REFUSALS.items():
            refusal = getattr(errors, name)
            self.assertTrue(str(refusal(None)))
            for thing in THINGS:
                self.assertEqual(str(refusal(thing)), str(refusal(**{field: thing})))

    def test_each_is_made_of_just_one_thing(self):
        for name in REFUSALS:
            with self.assertRaises(TypeError):
                getattr(errors, name)()
            with self.assertRaises(TypeError):
                getattr(errors, name)(1, 2)


if __name__ == "__main__":
    unittest.main()
