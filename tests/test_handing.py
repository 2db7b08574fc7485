"""Hand-overs: points [29] to [31]; what of them is refused with Uneven is tested with evening."""

import copy
import random
import time
import unittest

from rideturns.errors import NoName, TooMany, Uneven
from rideturns.handing import after, lots, paid_off, settled
from rideturns.shares import Share, in_order
from tests.coming import NAMES, credits_by_chance, evened_out, worth
from tests.things import THINGS, refused


def worths(standing):
    return {name: worth(share) for name, share in standing.items()}


def partings(things):
    """All partings of a list into lots."""
    if not things:
        yield []
        return
    for parting in partings(things[1:]):
        yield [[things[0]]] + parting
        for at in range(len(parting)):
            yield parting[:at] + [[things[0]] + parting[at]] + parting[at + 1:]


def most_lots(standing):
    """How many lots there can be, all partings tried."""
    held = {name: share for name, share in worths(standing).items() if share}
    return max([len(parting) for parting in partings(list(held)) if all(sum(map(held.get, lot)) == 0 for lot in parting)])


def uneven(standing):
    return sorted([name for name, share in standing.items() if share != Share(0)])


class After(unittest.TestCase):
    def test_no_hand_overs(self):
        self.assertEqual(after({}, []), {})
        self.assertEqual(after({"ann": Share(1, 2), "bob": Share(0)}, []), {"ann": Share(1, 2), "bob": Share(0)})

    def test_many(self):
        handed = [("ann", "bob", Share(1, 2)), ("bob", "cid", Share(1, 3)), ("ann", "bob", Share(1, 6))]
        self.assertEqual(after({"ann": Share(-1), "bob": Share(1)}, handed),
                         {"ann": Share(-1, 3), "bob": Share(2, 3), "cid": Share(-1, 3)})
        self.assertEqual(after(handed=handed, standing={}), {"ann": Share(2, 3), "bob": Share(-1, 3), "cid": Share(-1, 3)})
        self.assertEqual(after({}, [("ann", "bob", Share(1, 10 ** 29))] * 200), {"ann": Share(200, 10 ** 29), "bob": Share(-200, 10 ** 29)})

    def test_back_again(self):
        self.assertEqual(after({}, [("ann", "bob", Share(2)), ("bob", "ann", Share(2))]), {"ann": Share(0), "bob": Share(0)})

    def test_credits_that_are_not_nought_together(self):
        self.assertEqual(after({"ann": Share(5)}, [("bob", "ann", Share(2))]), {"ann": Share(3), "bob": Share(2)})
        self.assertEqual(after({"ann": Share(5)}, []), {"ann": Share(5)})

    def test_own_and_unchanged(self):
        standing = {"ann": Share(1), "bob": Share(-1)}
        handed = [("bob", "ann", Share(1))]
        told = after(standing, handed)
        self.assertEqual((standing, handed), ({"ann": Share(1), "bob": Share(-1)}, [("bob", "ann", Share(1))]))
        standing["ann"] = Share(7)
        handed.clear()
        self.assertEqual(told, {"ann": Share(0), "bob": Share(0)})
        told.clear()
        self.assertEqual(standing, {"ann": Share(7), "bob": Share(-1)})
        same = after(standing, [])
        same["ann"] = Share(9)
        self.assertEqual(standing["ann"], Share(7))


class PaidOff(unittest.TestCase):
    STANDING = {"ann": Share(-5), "bob": Share(2), "cid": Share(1), "dan": Share(3), "eve": Share(1), "fay": Share(-2), "gus": Share(0)}

    def test_one_who_owes(self):
        self.assertEqual(paid_off(self.STANDING, "ann"), [("ann", "dan", Share(3)), ("ann", "bob", Share(2))])
        self.assertEqual(paid_off(name="fay", standing=self.STANDING), [("fay", "dan", Share(2))])

    def test_one_who_is_owed(self):
        self.assertEqual(paid_off(self.STANDING, "dan"), [("ann", "dan", Share(3))])
        turned = {name: Share(0).less(share) for name, share in self.STANDING.items()}
        self.assertEqual(paid_off(turned, "ann"), [("dan", "ann", Share(3)), ("bob", "ann", Share(2))])

    def test_nought(self):
        self.assertEqual(paid_off(self.STANDING, "gus"), [])
        self.assertEqual(paid_off({"ann": Share(0)}, "ann"), [])

    def test_alike_ones_by_names_and_the_last_what_is_left(self):
        standing = {"zoe": Share(-5, 2), "dan": Share(1), "cid": Share(1), "ann": Share(1, 2), "bob": Share(1), "eve": Share(-1)}
        self.assertEqual(paid_off(standing, "zoe"), [("zoe", "bob", Share(1)), ("zoe", "cid", Share(1)), ("zoe", "dan", Share(1, 2))])
        standing = {name: Share(0).less(share) for name, share in standing.items()}
        self.assertEqual(paid_off(standing, "zoe"), [("bob", "zoe", Share(1)), ("cid", "zoe", Share(1)), ("dan", "zoe", Share(1, 2))])

    def test_who_is_not_in_the_credits(self):
        for thing in [thing for thing in THINGS if thing != "ann"] + ["zoe", "", ("ann", "bob")]:
            refused(self, NoName, "name", thing, paid_off, dict(self.STANDING), thing)
            refused(self, NoName, "name", thing, paid_off, name=thing, standing={})
        refused(self, NoName, "name", "ann", paid_off, {}, "ann")

    def test_by_chance(self):
        for seed in range(300):
            chance = random.Random(seed)
            standing = credits_by_chance(chance, NAMES[:chance.randint(1, 14)], chance.choice([1, 3, 10 ** 29]))
            for name in standing:
                before = copy.deepcopy(standing)
                handed = paid_off(standing, name)
                self.assertEqual(standing, before)
                left = after(standing, handed)
                self.assertEqual(left[name], Share(0))
                self.assertEqual(set(left), set(standing))
                side = -1 if standing[name].below(Share(0)) else 1
                size = {one: -side * share for one, share in worths(standing).items() if side * share < 0}
                ordered = sorted(size, key=lambda one: (-size[one], one))
                others = [taker if payer == name else payer for payer, taker, _ in handed]
                self.assertEqual(others, ordered[:len(others)])
                for at, (payer, taker, share) in enumerate(handed):
                    self.assertEqual(payer if side < 0 else taker, name)
                    self.assertTrue(Share(0).below(share))
                    if at + 1 < len(handed):
                        self.assertEqual(worth(share), size[others[at]])
                    self.assertLessEqual(worth(share), size[others[at]])
                # So few are enough only if the greatest ones are no less.
                self.assertLess(sum(sorted(size.values(), reverse=True)[:max(0, len(handed) - 1)]), max(abs(worth(standing[name])), 1e-40))

    def test_own(self):
        standing = copy.deepcopy(self.STANDING)
        told = paid_off(standing, "ann")
        for share in standing.values():
            share.top += 7
        standing.clear()
        self.assertEqual(told, [("ann", "dan", Share(3)), ("ann", "bob", Share(2))])


class Lots(unittest.TestCase):
    def is_parted(self, standing, told):
        self.assertIs(type(told), list)
        self.assertEqual(sorted([name for lot in told for name in lot]), uneven(standing))
        for lot in told:
            self.assertIs(type(lot), tuple)
            self.assertEqual(list(lot), sorted(lot))
            self.assertEqual(sum(worth(standing[name]) for name in lot), 0)
        self.assertEqual(told, sorted(told))

    def test_few(self):
        self.assertEqual(lots({}), [])
        self.assertEqual(lots({"ann": Share(0)}), [])
        self.assertEqual(lots({"bob": Share(1, 2), "ann": Share(-1, 2), "cid": Share(0)}), [("ann", "bob")])
        self.assertEqual(lots(standing={"dan": Share(1), "cid": Share(2), "bob": Share(-2), "ann": Share(-1)}), [("ann", "dan"), ("bob", "cid")])
        self.assertEqual(lots({"ann": Share(3), "bob": Share(-1), "cid": Share(-2)}), [("ann", "bob", "cid")])

    def test_against_all_partings(self):
        counts = []
        for seed in range(200):
            chance = random.Random(seed)
            standing = credits_by_chance(chance, NAMES[:chance.randint(1, 8)], chance.choice([1, 2, 4, 8]), chance.choice([(1,), (1, 2), (1, 2, 3)]))
            before = copy.deepcopy(standing)
            told = lots(standing)
            self.assertEqual(standing, before)
            self.is_parted(standing, told)
            self.assertEqual(len(told), most_lots(standing))
            counts.append(len(told))
        self.assertTrue({0, 1, 2, 3} <= set(counts))

    def test_a_lot_that_spoils_others(self):
        # The first three are nought together, too, but then all others make one lot.
        numbers = [1, 2, -3, 10, -11, 20, -22, 43, -40]
        standing = {name: Share(number) for name, number in zip(NAMES, numbers)}
        self.assertEqual(lots(standing), [("aaa", "ddd", "eee"), ("bbb", "fff", "ggg"), ("ccc", "hhh", "iii")])
        self.assertEqual(len(settled(standing)), 6)

    def test_ten_names(self):
        chance = random.Random(3)
        for more in (0, 4):
            for seed in range(6):
                names = chance.sample(NAMES, 10 + more)
                shares = [chance.randint(1, 9 if seed < 5 else 10 ** 29) for _ in range(5)]
                signed = [Share(share, 7) for share in shares] + [Share(-share, 7) for share in shares]
                standing = dict(zip(names, signed + [Share(0)] * more))
                start = time.monotonic()
                told = lots(standing)
                handed = settled(standing)
                self.assertLess(time.monotonic() - start, 5)
                self.is_parted(standing, told)
                self.assertEqual(len(told), 5)
                self.assertEqual(len(handed), 5)

    def test_ten_names_of_great_numbers(self):
        chance = random.Random(8)
        standing = evened_out({name: Share(chance.randint(1, 10 ** 29), chance.randint(10 ** 28, 10 ** 29)) for name in NAMES[:10]})
        start = time.monotonic()
        self.assertEqual(lots(standing), [tuple(NAMES[:10])])
        self.assertEqual(len(settled(standing)), 9)
        self.assertLess(time.monotonic() - start, 5)

    def test_eleven_names(self):
        for many in range(11, 15):
            standing = evened_out({name: Share(1, 3) for name in NAMES[:many]})
            for call in (lots, settled):
                refused(self, TooMany, "most", 10, call, standing)
                refused(self, TooMany, "most", 10, call, standing=standing)
        self.assertEqual(len(settled(evened_out({name: Share(1) for name in NAMES[:10]}))), 9)

    def test_uneven_ahead_of_too_many(self):
        for call in (lots, settled):
            with self.assertRaises(Uneven) as caught:
                call({name: Share(1) for name in NAMES})
            self.assertEqual(caught.exception.rest, Share(14))

    def test_own(self):
        standing = {"ann": Share(1), "bob": Share(-1)}
        lots(standing).clear()
        settled(standing).clear()
        self.assertEqual((lots(standing), settled(standing)), ([("ann", "bob")], [("bob", "ann", Share(1))]))
        told = settled(standing)
        for share in standing.values():
            share.top += 7
        self.assertEqual(told, [("bob", "ann", Share(1))])


class Settled(unittest.TestCase):
    def test_nothing_to_settle(self):
        self.assertEqual(settled({}), [])
        self.assertEqual(settled(standing={"ann": Share(0), "bob": Share(0)}), [])

    def test_few(self):
        self.assertEqual(settled({"ann": Share(1, 2), "bob": Share(-1, 2)}), [("bob", "ann", Share(1, 2))])
        self.assertEqual(sorted(map(str, settled({"ann": Share(1), "bob": Share(2), "cid": Share(-1), "dan": Share(-2)}))),
                         sorted(map(str, [("cid", "ann", Share(1)), ("dan", "bob", Share(2))])))

    def test_by_chance(self):
        for seed in range(200):
            chance = random.Random(seed)
            standing = credits_by_chance(chance, NAMES[:chance.randint(1, 10)], chance.choice([1, 2, 4, 8]), chance.choice([(1,), (1, 2, 3)]))
            before = copy.deepcopy(standing)
            handed = settled(standing)
            self.assertEqual(standing, before)
            self.assertEqual(len(handed), len(uneven(standing)) - len(lots(standing)))
            held = worths(standing)
            for payer, taker, share in handed:
                paid = worth(share)
                self.assertTrue(0 < paid <= -held[payer] and paid <= held[taker])
                held[payer] += paid
                held[taker] -= paid
            self.assertEqual(set(held.values()) - {0}, set())
            self.assertEqual(set(after(standing, handed)), set(standing))

    def test_no_name_is_paid_off_by_fewer(self):
        # As [30] has it, in the order that in_order of the credits the other way about tells.
        standing = {"ann": Share(-4), "bob": Share(1), "cid": Share(2), "dan": Share(1)}
        turned = {name: Share(0).less(share) for name, share in standing.items()}
        self.assertEqual([taker for _, taker, _ in paid_off(standing, "ann")], in_order(["bob", "cid", "dan"], turned))


if __name__ == "__main__":
    unittest.main()
