"""The interface: names, arguments and defaults, each defined in its own file and class."""

import importlib
import inspect
import unittest

INTERFACE = {
    "shares": {
        "Share": "(top, bottom=1)",
        "Share.plus": "(self, other)",
        "Share.less": "(self, other)",
        "Share.times": "(self, many)",
        "Share.over": "(self, many)",
        "Share.below": "(self, other)",
        "Share.whole": "(self)",
        "total": "(shares, start=0)",
        "greatest": "(shares, none=None)",
        "in_order": "(names, shares)",
        "share_of": "(text)",
    },
    "masks": {
        "mask_text": "(mask)",
        "mask_of": "(text)",
        "mask_from": "(days)",
        "weekdays": "(mask)",
    },
    "folk": {
        "Person": "(name, seats=0, mask=31)",
    },
    "wants": {
        "Wants": "()",
        "Wants.enter": "(self, person, day=0)",
        "Wants.leave": "(self, name, day)",
        "Wants.weekly": "(self, name, mask, day=0)",
        "Wants.only": "(self, name, day, want=True)",
        "Wants.usual": "(self, name, day)",
        "Wants.sick": "(self, name, first, last)",
        "Wants.well": "(self, name, day)",
        "Wants.wants": "(self, name, day)",
        "Wants.riders": "(self, day)",
        "Wants.room": "(self, day)",
    },
    "cars": {
        "lacking": "(riders, seats)",
        "fewest": "(riders, seats)",
        "choose": "(riders, seats, standing=None)",
        "crews": "(riders, drivers, seats)",
        "carries": "(riders, seats, thing)",
    },
    "rides": {
        "Ride": "(day, driver, riders=None, legs=1, worth=1, late=None)",
        "Ride.riders": "(self)",
        "Ride.late": "(self)",
        "Ride.folk": "(self)",
        "Ride.parts": "(self)",
        "Ride.gives": "(self)",
    },
    "rules": {
        "is_rule": "(thing)",
    },
    "turns": {
        "Turns": "(rule)",
        "Turns.who": "(self, riders)",
        "Turns.ride": "(self, riders)",
        "Turns.stands": "(self)",
        "Turns.drives": "(self)",
        "Turns.memory": "(self)",
    },
    "bounds": {
        "never_beyond": "(many, grain=0)",
        "round_bound": "(order, name)",
        "round_row": "(order, name, owed=True)",
        "runaway": "(order, name, owed=True)",
    },
    "reaching": {
        "reached": "(rule)",
        "farthest": "(rule, name, owed=True)",
    },
    "reachlooks": {
        "shows_reached": "(rule, thing)",
    },
    "parting": {
        "parting": "(one, other)",
        "alike": "(one, other)",
    },
    "partlooks": {
        "shows_alike": "(one, other, thing)",
    },
    "evening": {
        "wanted": "(standing, days)",
        "evened": "(standing, days, slack=0)",
        "why_uneven": "(standing, days, slack=0)",
        "soonest": "(standing, days, slack=0)",
    },
    "evenlooks": {
        "shows_uneven": "(standing, days, thing, slack=0)",
    },
    "handing": {
        "after": "(standing, handed)",
        "paid_off": "(standing, name)",
        "lots": "(standing)",
        "settled": "(standing)",
    },
    "book": {
        "Book": "()",
        "Book.enter": "(self, name)",
        "Book.hand": "(self, day, payer, taker, share)",
        "Book.undo": "(self)",
        "Book.tell": "(self, ride)",
        "Book.take_back": "(self, day, driver)",
        "Book.leave": "(self, name, day)",
        "Book.names": "(self)",
        "Book.gone": "(self)",
        "Book.handed": "(self)",
        "Book.rides": "(self, day=None)",
        "Book.stands": "(self, day=None)",
    },
    "ahead": {
        "plan_ahead": "(wants, book, first, last)",
    },
    "texts": {
        "ride_of": "(text)",
        "written": "(book)",
        "read": "(text)",
    },
    "desk": {
        "Desk": "()",
        "Desk.answer": "(self, row)",
    },
}


class Interface(unittest.TestCase):
    def test_names_arguments_and_defaults(self):
        for module, members in INTERFACE.items():
            held = vars(importlib.import_module("rideturns." + module))
            for name, arguments in members.items():
                with self.subTest(f"{module}.{name}"):
                    owner, dot, method = name.partition(".")
                    member = vars(held[owner])[method] if dot else held[owner]
                    self.assertEqual(str(inspect.signature(member)), arguments)
                    self.assertEqual(member.__module__, "rideturns." + module)
                    self.assertEqual(member.__qualname__, name)


if __name__ == "__main__":
    unittest.main()
