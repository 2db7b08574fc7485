"""Shares: points [4] and [5]."""

import random
import unittest
from fractions import Fraction

from rideturns.errors import NoKind, NoShare, Nought
from rideturns.folk import Person
from rideturns.rides import Ride
from rideturns.shares import Share, greatest, in_order, same_share, share_of, total
from tests.things import NO_TEXTS, NO_WHOLES, THINGS, refused


def fraction(share):
    return Fraction(share.top, share.bottom)


def many_numbers(seed, many):
    """Numbers of either sign, small ones and ones of up to thirty figures."""
    chance = random.Random(seed)
    small = [chance.randint(-12, 12) for _ in range(many)]
    great = [chance.randint(-(10 ** 30) + 1, 10 ** 30 - 1) for _ in range(many)]
    return small + great


def many_shares(seed, many=12):
    tops = many_numbers(seed, many)
    bottoms = [number or 1 for number in many_numbers(seed + 1, many)]
    return [Share(top, bottom) for top, bottom in zip(tops, bottoms)]


class Made(unittest.TestCase):
    def is_share(self, share, top, bottom):
        self.assertIs(type(share), Share)
        self.assertEqual((share.top, share.bottom), (top, bottom))
        self.assertEqual((type(share.top), type(share.bottom)), (int, int))

    def test_lowest_terms(self):
        for top, bottom, told in [
            (7, 3, (7, 3)), (14, 6, (7, 3)), (6, 14, (3, 7)), (0, 5, (0, 1)), (0, -5, (0, 1)), (5, 5, (1, 1)),
            (-14, 6, (-7, 3)), (14, -6, (-7, 3)), (-14, -6, (7, 3)), (4, -2, (-2, 1)), (1, -1, (-1, 1)),
            (10 ** 29, 10 ** 28, (10, 1)), (3 * 10 ** 28, -9 * 10 ** 28, (-1, 3)),
        ]:
            self.is_share(Share(top, bottom), *told)

    def test_numbers_of_all_sizes_with_a_common_part(self):
        for top in many_numbers(1, 15):
            for bottom in many_numbers(2, 15):
                for common in (1, -1, 6, -35, 10 ** 7):
                    if bottom != 0:
                        worth = Fraction(top, bottom)
                        share = Share(top * common, bottom * common)
                        self.is_share(share, worth.numerator, worth.denominator)

    def test_a_bottom_left_out_by_place_and_by_name(self):
        self.is_share(Share(7), 7, 1)
        self.is_share(Share(top=-7), -7, 1)
        self.is_share(Share(7, bottom=2), 7, 2)
        self.is_share(Share(bottom=-4, top=6), -3, 2)

    def test_a_bottom_of_0(self):
        for top in (0, 6, -6, 10 ** 29 + 1):
            refused(self, Nought, "top", top, Share, top, 0)
            refused(self, Nought, "top", top, Share, bottom=0, top=top)

    def test_what_is_no_whole_number(self):
        for thing in NO_WHOLES:
            refused(self, NoKind, "thing", thing, Share, thing)
            refused(self, NoKind, "thing", thing, Share, thing, 2)
            refused(self, NoKind, "thing", thing, Share, 2, thing)
            refused(self, NoKind, "thing", thing, Share, bottom=thing, top=0)
            refused(self, NoKind, "thing", thing, Share, thing, 0)

    def test_the_top_is_told_ahead_of_the_bottom(self):
        for thing in NO_WHOLES:
            refused(self, NoKind, "thing", thing, Share, thing, ["other"])
            refused(self, NoKind, "thing", thing, Share, bottom=None, top=thing)

    def test_equal(self):
        self.assertEqual(Share(2, 4), Share(-3, -6))
        self.assertEqual(Share(5), Share(10, 2))
        self.assertEqual(Share(0, 9), Share(0))
        self.assertFalse(Share(1, 2) != Share(2, 4))
        for one, other in [((1, 2), (1, 3)), ((1, 2), (3, 2)), ((1, 2), (-1, 2)), ((2, 1), (1, 2)), ((0, 1), (1, 1))]:
            self.assertFalse(Share(*one) == Share(*other))
            self.assertTrue(Share(*one) != Share(*other))

    def test_equal_to_nothing_else(self):
        for share in [Share(0), Share(1), Share(-1), Share(7), Share(1, 2), Share(31)]:
            for thing in THINGS + [share.top, str(share), repr(share), (share.top, share.bottom), [share], Person("ann"), Ride(1, "ann")]:
                self.assertFalse(share == thing)
                self.assertFalse(thing == share)
                self.assertTrue(share != thing)

    def test_texts(self):
        for share, text, shown in [
            (Share(7, 3), "7/3", "Share(7, 3)"), (Share(-2), "-2", "Share(-2, 1)"), (Share(0), "0", "Share(0, 1)"),
            (Share(4, -6), "-2/3", "Share(-2, 3)"), (Share(6, 3), "2", "Share(2, 1)"), (Share(1, 10), "1/10", "Share(1, 10)"),
        ]:
            self.assertEqual((str(share), repr(share)), (text, shown))


class Same(unittest.TestCase):
    def test_a_new_share_of_the_same_worth(self):
        for share in many_shares(31):
            told = same_share(share)
            self.assertEqual((told, told.top, told.bottom), (share, share.top, share.bottom))
            told.top += 1
            self.assertNotEqual(told, share)


class Sums(unittest.TestCase):
    def is_worth(self, share, worth):
        self.assertIs(type(share), Share)
        self.assertEqual((share.top, share.bottom), (worth.numerator, worth.denominator))

    def test_of_two(self):
        for one in many_shares(3):
            for other in many_shares(5) + [one]:
                before = (one.top, one.bottom, other.top, other.bottom)
                self.is_worth(one.plus(other), fraction(one) + fraction(other))
                self.is_worth(one.less(other), fraction(one) - fraction(other))
                self.assertIs(one.below(other), fraction(one) < fraction(other))
                self.assertEqual((one.top, one.bottom, other.top, other.bottom), before)

    def test_by_names(self):
        half = Share(1, 2)
        self.assertEqual(half.plus(other=Share(1, 3)), Share(5, 6))
        self.assertEqual(half.less(other=Share(1, 3)), Share(1, 6))
        self.assertEqual(half.times(many=6), Share(3))
        self.assertEqual(half.over(many=-2), Share(-1, 4))
        self.assertIs(half.below(other=Share(1)), True)

    def test_below_both_ways(self):
        rising = [Share(-2), Share(-5, 3), Share(-1, 2), Share(-1, 3), Share(0), Share(1, 3), Share(1, 2), Share(5, 3)]
        for at, one in enumerate(rising):
            for place, other in enumerate(rising):
                self.assertIs(one.below(other), at < place)

    def test_with_a_number(self):
        for share in many_shares(7):
            for many in many_numbers(9, 6) + [0, 1, -1]:
                before = (share.top, share.bottom)
                self.is_worth(share.times(many), fraction(share) * many)
                if many != 0:
                    self.is_worth(share.over(many), fraction(share) / many)
                self.assertEqual((share.top, share.bottom), before)

    def test_over_0(self):
        refused(self, Nought, "top", 2, Share(4, 6).over, 0)
        refused(self, Nought, "top", -2, Share(4, -6).over, many=0)
        refused(self, Nought, "top", 0, Share(0).over, 0)

    def test_whole(self):
        for share, whole in [
            (Share(7, 3), 2), (Share(-7, 3), -3), (Share(-1, 9), -1), (Share(1, 9), 0), (Share(-6, 3), -2), (Share(0), 0),
        ]:
            self.assertEqual(share.whole(), whole)
        for share in many_shares(11):
            self.assertEqual(share.whole(), fraction(share).__floor__())
            self.assertIs(type(share.whole()), int)

    def test_new_shares(self):
        share = Share(1, 2)
        for told in [share.plus(Share(0)), share.less(Share(0)), share.times(1), share.over(1)]:
            self.assertEqual(told, share)
            self.assertIsNot(told, share)


class OfMany(unittest.TestCase):
    def test_total(self):
        self.assertEqual(total([]), Share(0))
        self.assertEqual(total([], -3), Share(-3))
        self.assertEqual(total([], start=3), Share(3))
        self.assertEqual(total([Share(1, 2)]), Share(1, 2))
        self.assertEqual(total([Share(1, 2), Share(1, 3), Share(1, 6)]), Share(1))
        self.assertEqual(total(start=-1, shares=[Share(1, 2), Share(-1, 3)]), Share(-5, 6))
        self.assertIs(type(total([])), Share)

    def test_total_of_all_sizes(self):
        shares = many_shares(13)
        kept = list(shares)
        before = [(share.top, share.bottom) for share in shares]
        told = total(shares, 10 ** 20)
        self.assertEqual(fraction(told), sum([fraction(share) for share in shares]) + 10 ** 20)
        self.assertEqual(len(shares), len(kept))
        self.assertTrue(all([one is other for one, other in zip(shares, kept)]))
        self.assertEqual([(share.top, share.bottom) for share in shares], before)

    def test_greatest(self):
        self.assertIsNone(greatest([]))
        self.assertEqual(greatest([], 5), 5)
        self.assertEqual(greatest(none="none", shares=[]), "none")
        self.assertEqual(greatest([Share(-1, 2)], Share(5)), Share(-1, 2))
        self.assertEqual(greatest([Share(-1, 2), Share(-1, 3), Share(-2)]), Share(-1, 3))
        self.assertEqual(greatest([Share(3), Share(1), Share(2)]), Share(3))
        self.assertEqual(greatest(shares=[Share(1), Share(2), Share(3)], none=None), Share(3))

    def test_greatest_of_all_sizes(self):
        for seed in range(20):
            shares = many_shares(seed, 3)
            kept = list(shares)
            self.assertEqual(fraction(greatest(shares)), max([fraction(share) for share in shares]))
            self.assertTrue(all([one is other for one, other in zip(shares, kept)]))
            self.assertEqual(len(shares), len(kept))

    def test_in_order(self):
        shares = {"ann": Share(1, 2), "bob": Share(-1, 3), "cid": Share(1, 2), "eve": Share(-1, 2), "fay": Share(0, 3)}
        self.assertEqual(in_order(["cid", "bob", "ann"], shares), ["bob", "ann", "cid"])
        self.assertEqual(in_order([], shares), [])
        self.assertEqual(in_order(["zoe", "ann"], {}), ["ann", "zoe"])
        names = ["zoe", "fay", "eve", "dan", "cid", "bob", "ann"]
        self.assertEqual(in_order(shares=shares, names=names), ["eve", "bob", "dan", "fay", "zoe", "ann", "cid"])
        self.assertEqual(names, ["zoe", "fay", "eve", "dan", "cid", "bob", "ann"])
        self.assertEqual(sorted(shares), ["ann", "bob", "cid", "eve", "fay"])

    def test_in_order_is_a_new_list(self):
        names = ["ann", "bob"]
        told = in_order(names, {})
        told.append("cid")
        self.assertEqual(names, ["ann", "bob"])
        self.assertEqual(in_order(names, {}), ["ann", "bob"])

    def test_in_order_of_all_sizes(self):
        chance = random.Random(17)
        for seed in range(40):
            names = [letter * (seed % 8 + 1) for letter in "abcdefghijklmn"]
            pool = many_shares(seed, 2)
            shares = {name: chance.choice(pool) for name in names if chance.random() < 0.8}
            chance.shuffle(names)
            worth = {name: fraction(shares.get(name, Share(0))) for name in names}
            self.assertEqual(in_order(names, shares), sorted(names, key=lambda name: (worth[name], name)))


GOOD_TEXTS = ["0", "1", "-1", "10", "-10", "7/3", "-7/3", "1/2", "-1/10", "100/101", "9" * 30, "-" + "9" * 30,
              "1/" + "3" * 30, "1" + "0" * 29 + "/3", "1/" + "9" * 4000, "-" + "7" * 4000]
BAD_TEXTS = ["", "-", "/", "-/", "1/", "/1", "/2", "-/2", "00", "01", "-01", "-0", "+1", "+0", "--1", "- 1", "1/02", "01/2",
             "1/+2", "1/-2", "-1/-2", "0/1", "0/2", "-0/2", "1/1", "7/1", "2/4", "-2/4", "6/3", "1/0", "0/0", "-5/0", " 1",
             "1 ", "1 /2", "1/ 2", "1/2 ", " 1/2", "\n1", "1\n", "1/2\n", "1\n/2", "1/2/3", "1//2", "1.5", "1e3", "1_0", "0x1",
             "a", "1a", "ann", "1,2", "\\", "1-", "1/2-", "1\t", "None", "Share(1, 2)", "0" * 40000, "-" + "0" * 5000,
             "1/" + "0" * 5000, "1/0" + "1" * 5000, "9" * 5000 + "x", " " * 40000]


class Read(unittest.TestCase):
    def test_texts_of_shares(self):
        for text in GOOD_TEXTS:
            share = share_of(text)
            self.assertIs(type(share), Share)
            self.assertEqual(str(share), text)
            self.assertEqual(fraction(share), Fraction(text))
        self.assertEqual(share_of(text="-7/3"), Share(-7, 3))

    def test_there_and_back(self):
        for share in many_shares(19, 40):
            self.assertEqual(share_of(str(share)), share)
            self.assertEqual(share_of(str(share.over(3))), share.over(3))

    def test_small_ones(self):
        for top in range(-30, 31):
            for bottom in range(0, 31):
                text = f"{top}/{bottom}"
                if bottom > 1 and Fraction(top, bottom).denominator == bottom:
                    self.assertEqual(share_of(text), Share(top, bottom))
                else:
                    refused(self, NoShare, "text", text, share_of, text)

    def test_all_else(self):
        for text in BAD_TEXTS + NO_TEXTS:
            refused(self, NoShare, "text", text, share_of, text)
            refused(self, NoShare, "text", text, share_of, text=text)
        share = Share(1, 2)
        refused(self, NoShare, "text", share, share_of, share)


if __name__ == "__main__":
    unittest.main()
