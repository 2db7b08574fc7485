"""The interface: names, arguments and defaults, each defined in its own file and class."""

import importlib
import inspect
import unittest

INTERFACE = {
    "shares": {
        "Share": "(top, bottom=1)",
        "Share.plus": "(self, other)",
        "Share.less": "(self, other)",
        "Share.times": "(self, many)",
        "Share.over": "(self, many)",
        "Share.below": "(self, other)",
        "Share.whole": "(self)",
        "total": "(shares, start=0)",
        "greatest": "(shares, none=None)",
        "in_order": "(names, shares)",
        "share_of": "(text)",
    },
    "masks": {
        "mask_text": "(mask)",
        "mask_of": "(text)",
        "mask_from": "(days)",
        "weekdays": "(mask)",
    },
}


class Interface(unittest.TestCase):
    def test_names_arguments_and_defaults(self):
        for module, members in INTERFACE.items():
            held = vars(importlib.import_module("rideturns." + module))
            for name, arguments in members.items():
                with self.subTest(f"{module}.{name}"):
                    owner, dot, method = name.partition(".")
                    member = vars(held[owner])[method] if dot else held[owner]
                    self.assertEqual(str(inspect.signature(member)), arguments)
                    self.assertEqual(member.__module__, "rideturns." + module)
                    self.assertEqual(member.__qualname__, name)


if __name__ == "__main__":
    unittest.main()
