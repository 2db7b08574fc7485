"""Credits by names: what other modules build on."""

import unittest

from rideturns.errors import Uneven
from rideturns.shares import Share
from rideturns.standings import check_even, joined, turned


class Standings(unittest.TestCase):
    def test_check_even(self):
        for standing in [{}, {"ann": Share(0)}, {"ann": Share(1, 3), "bob": Share(1, 6), "cid": Share(-1, 2)}]:
            self.assertIsNone(check_even(standing))
        with self.assertRaises(Uneven) as caught:
            check_even({"ann": Share(1, 3), "bob": Share(-1, 2)})
        self.assertEqual(caught.exception.rest, Share(-1, 6))

    def test_joined(self):
        one, other = {"ann": Share(1), "bob": Share(2)}, {"bob": Share(-1, 2), "cid": Share(3)}
        self.assertEqual(joined(one, [other]), {"ann": Share(1), "bob": Share(3, 2), "cid": Share(3)})
        self.assertEqual((one, other), ({"ann": Share(1), "bob": Share(2)}, {"bob": Share(-1, 2), "cid": Share(3)}))
        self.assertIsNot(joined(one, [])["ann"], one["ann"])

    def test_turned(self):
        self.assertEqual(turned({"ann": Share(1), "bob": Share(-2, 3), "cid": Share(0)}),
                         {"ann": Share(-1), "bob": Share(2, 3), "cid": Share(0)})


if __name__ == "__main__":
    unittest.main()
