"""A book: points [32] and [33], and of [3] what credits hang on."""

import copy
import itertools
import random
import time
import unittest
from fractions import Fraction

from rideturns.book import Book
from rideturns.errors import BadName, NoDay, NoName, NoNumber, NothingDone, Taken
from rideturns.folk import Person
from rideturns.handing import paid_off
from rideturns.rides import Ride
from rideturns.shares import Share, total
from tests.coming import worth
from tests.things import NO_DAYS, NO_NAMES, THINGS, refused

FOLK = ["ann", "bob", "cid", "dan", "eve"]
LATE = Ride(3, "ann", [("cid", 1, 4), ("bob", 0, 2)], 4, 10, ["bob"])
TRIP = Ride(5, "bob", [("ann", 0, 1), ("cid", 0, 1)])


def book_of(names, rides=(), handed=()):
    book = Book()
    for name in names:
        book.enter(name)
    for ride in rides:
        book.tell(ride)
    for one in handed:
        book.hand(*one)
    return book


def state(book):
    """All that is told of a book."""
    return (book.names(), book.gone(), book.rides(), book.handed(), book.stands(), len(book),
            [book.stands(day) for day in (0, 3, 4, 5, 1000000)])


def ride_by_chance(chance, names, day=None):
    driver, *others = chance.sample(names, chance.randint(1, len(names)))
    legs = chance.randint(1, 4)
    riders = []
    for name in others:
        on = chance.randrange(legs)
        riders.append((name, on, chance.randint(on + 1, legs)))
    late = [name for name in others if chance.random() < 0.3]
    return Ride(chance.randint(0, 12) if day is None else day, driver, riders, legs, chance.randint(1, 9), late)


def summed(rides, handed, names):
    """The credits by rides and hand-overs (day, payer, taker, share), in fractions."""
    held = {name: Fraction(0) for name in names}
    for ride in rides:
        for name, share in ride.gives().items():
            held[name] += worth(share)
    for _, payer, taker, share in handed:
        held[payer] += worth(share)
        held[taker] -= worth(share)
    return held


class BookCase(unittest.TestCase):
    def barred(self, book, error, field, worth_, call, *places, **names):
        """The deed is refused, is no deed, and changes nothing."""
        before = state(book)
        refused(self, error, field, worth_, call, *places, **names)
        self.assertEqual(state(book), before)


class Entering(BookCase):
    def test_enter(self):
        book = Book()
        self.assertEqual(state(book), ([], [], [], [], {}, 0, [{}] * 5))
        self.assertIsNone(book.enter("bob"))
        self.assertIsNone(book.enter(name="ann"))
        self.assertEqual((book.names(), book.gone()), (["ann", "bob"], []))
        self.assertEqual(book.stands(), {"ann": Share(0), "bob": Share(0)})

    def test_sorted(self):
        book = book_of(["dan", "ann", "eve", "cid", "bob"])
        book.leave("eve", 1)
        book.leave("ann", 0)
        book.leave("bob", 2)
        self.assertEqual((book.names(), book.gone()), (["cid", "dan"], ["ann", "bob", "eve"]))

    def test_what_is_no_name(self):
        book = book_of(["ann"])
        for thing in NO_NAMES:
            self.barred(book, BadName, "name", thing, book.enter, thing)

    def test_who_is_in(self):
        book = book_of(["ann", "bob"])
        self.barred(book, Taken, "name", "ann", book.enter, "ann")
        self.barred(book, Taken, "name", "bob", book.enter, name="bob")

    def test_leaving_and_entering_again(self):
        book = book_of(["ann", "bob"])
        self.assertEqual(book.leave("ann", 3), [])
        self.assertEqual((book.names(), book.gone()), (["bob"], ["ann"]))
        self.assertEqual(book.stands(), {"ann": Share(0), "bob": Share(0)})
        self.assertIsNone(book.enter("ann"))
        self.assertEqual((book.names(), book.gone()), (["ann", "bob"], []))
        self.barred(book, Taken, "name", "ann", book.enter, "ann")
        self.assertEqual(book.leave(day=0, name="ann"), [])
        self.assertEqual(book.gone(), ["ann"])

    def test_credits_stay_with_who_enters_again(self):
        book = book_of(FOLK, [TRIP])
        book.leave("bob", 6)
        book.tell(LATE)
        book.enter("bob")
        self.assertEqual(book.stands()["bob"], LATE.gives()["bob"])


class Telling(BookCase):
    def test_tell(self):
        book = book_of(FOLK)
        self.assertEqual(book.tell(TRIP), {"ann": Share(-1, 3), "bob": Share(2, 3), "cid": Share(-1, 3)})
        self.assertEqual(book.tell(ride=LATE), LATE.gives())
        self.assertEqual((book.rides(), len(book)), ([LATE, TRIP], 2))

    def test_who_is_not_moved_is_not_told(self):
        book = book_of(FOLK)
        self.assertEqual(book.tell(Ride(3, "ann")), {})
        self.assertEqual(book.take_back(3, "ann"), {})

    def test_a_rider_whom_lateness_of_others_makes_even(self):
        # zoe's part is a fifth of a twelfth, and so is what one late one gives each of six others.
        riders = [("bob", 0, 12), ("cid", 0, 12), ("dan", 0, 12), ("zoe", 0, 1), ("eve", 1, 12), ("fay", 1, 12)]
        ride = Ride(3, "ann", riders, 12, 7, ["eve"])
        self.assertEqual(ride.gives()["zoe"], Share(0))
        book = book_of(ride.folk())
        self.assertEqual(sorted(book.tell(ride)), ["ann", "bob", "cid", "dan", "eve", "fay"])
        self.assertEqual(sorted(book.take_back(3, "ann")), ["ann", "bob", "cid", "dan", "eve", "fay"])

    def test_in_any_order(self):
        rides = [Ride(day, driver, [("eve", 0, 1)]) for day in (9, 0, 1000000) for driver in ("cid", "ann")]
        held = None
        for turned in itertools.islice(itertools.permutations(rides), 0, 720, 7):
            book = book_of(FOLK, turned)
            self.assertEqual([(ride.day, ride.driver) for ride in book.rides()],
                             [(0, "ann"), (0, "cid"), (9, "ann"), (9, "cid"), (1000000, "ann"), (1000000, "cid")])
            held = held or book.stands()
            self.assertEqual(book.stands(), held)

    def test_who_never_entered(self):
        book = book_of(["bob", "cid"])
        ride = Ride(3, "zoe", [("cid", 0, 1), ("dan", 0, 1), ("bob", 0, 1)])
        self.barred(book, NoName, "name", "dan", book.tell, ride)
        book.enter("dan")
        self.barred(book, NoName, "name", "zoe", book.tell, ride)
        book.enter("zoe")
        self.assertEqual(len(book.tell(ride)), 4)
        self.barred(book, NoName, "name", "aa", book.tell, Ride(3, "zoe", [("aa", 0, 1)]))

    def test_who_is_out_may_ride(self):
        book = book_of(FOLK)
        book.leave("bob", 2)
        self.assertEqual(book.tell(TRIP)["bob"], Share(2, 3))
        self.assertEqual((book.gone(), book.stands()["bob"]), (["bob"], Share(2, 3)))

    def test_a_second_ride_of_a_driver_and_day(self):
        book = book_of(FOLK, [TRIP])
        for ride in [TRIP, Ride(5, "bob"), Ride(5, "bob", [("dan", 0, 1)], worth=9)]:
            self.barred(book, Taken, "name", "bob", book.tell, ride)
        self.barred(book, NoName, "name", "zoe", book.tell, Ride(5, "bob", [("zoe", 0, 1)]))
        book.tell(Ride(5, "ann", [("bob", 0, 1)]))
        book.tell(Ride(6, "bob"))
        book.take_back(5, "bob")
        book.tell(Ride(5, "bob"))
        self.assertEqual(len(book), 3)

    def test_moves_its_own_folk_alone(self):
        for seed in range(60):
            chance = random.Random(seed)
            book = book_of(FOLK)
            for _ in range(6):
                ride = ride_by_chance(chance, FOLK)
                if not [one for one in book.rides(ride.day) if one.driver == ride.driver]:
                    before = book.stands()
                    told = book.tell(ride)
                    gives = ride.gives()
                    self.assertEqual(told, {name: share for name, share in gives.items() if share != Share(0)})
                    for name, share in book.stands().items():
                        self.assertEqual(share, before[name].plus(gives.get(name, Share(0))))


class TakingBack(BookCase):
    def test_take_back(self):
        book = book_of(FOLK, [TRIP, LATE])
        self.assertEqual(book.take_back(5, "bob"), {"ann": Share(1, 3), "bob": Share(-2, 3), "cid": Share(1, 3)})
        self.assertEqual((book.rides(), len(book)), ([LATE], 1))
        self.assertEqual(book.stands(), {**{name: Share(0) for name in FOLK}, **LATE.gives()})
        self.assertEqual(book.take_back(driver="ann", day=3), {name: Share(0).less(share) for name, share in LATE.gives().items()})
        self.assertEqual(book, book_of(FOLK))

    def test_twice_and_what_is_not_told(self):
        book = book_of(FOLK, [TRIP, LATE])
        book.take_back(5, "bob")
        self.barred(book, NoDay, "day", 5, book.take_back, 5, "bob")
        for day, driver in [(3, "bob"), (5, "ann"), (4, "ann"), (0, "zoe"), (1000000, "ann")]:
            self.barred(book, NoDay, "day", day, book.take_back, day, driver)
        for thing in THINGS:
            if thing != "ann":
                self.barred(book, NoDay, "day", 3, book.take_back, 3, thing)

    def test_days_that_are_none(self):
        book = book_of(FOLK, [Ride(1, "ann"), Ride(0, "ann")])
        for thing in NO_DAYS:
            self.barred(book, NoDay, "day", thing, book.take_back, thing, "ann")
            self.barred(book, NoDay, "day", thing, book.take_back, thing, thing)


class Handing(BookCase):
    def test_hand(self):
        book = book_of(["ann", "bob"])
        self.assertIsNone(book.hand(3, "ann", "bob", Share(1, 2)))
        self.assertIsNone(book.hand(share=Share(1), taker="ann", payer="bob", day=0))
        self.assertEqual(book.handed(), [(0, "bob", "ann", Share(1)), (3, "ann", "bob", Share(1, 2))])
        self.assertEqual(book.stands(), {"ann": Share(-1, 2), "bob": Share(1, 2)})
        self.assertEqual(len(book), 0)

    def test_sorted(self):
        handed = [(day, payer, taker, Share(top, bottom)) for day in (0, 10, 9) for payer, taker in [("ann", "bob"), ("bob", "ann"), ("ann", "cid")]
                  for top, bottom in [(1, 2), (1, 3), (10, 1), (9, 1), (1, 2)]]
        told = sorted(handed, key=lambda one: (*one[:3], worth(one[3])))
        for seed in range(5):
            random.Random(seed).shuffle(handed)
            self.assertEqual(book_of(FOLK, [], handed).handed(), told)

    def test_who_is_out(self):
        book = book_of(FOLK)
        book.leave("ann", 0)
        book.leave("bob", 0)
        book.hand(4, "ann", "bob", Share(1))
        self.assertEqual(book.stands()["ann"], Share(1))

    def test_refusals_in_their_order(self):
        book = book_of(["ann", "bob"])
        for thing in THINGS + ["zoe"]:
            if thing not in ("ann", "bob"):
                self.barred(book, NoName, "name", thing, book.hand, 3, thing, "ann", Share(1))
                self.barred(book, NoName, "name", thing, book.hand, 3, "ann", thing, Share(1))
                self.barred(book, NoName, "name", thing, book.hand, 3, thing, ["x"], None)
                self.barred(book, NoName, "name", thing, book.hand, 3, thing, thing, thing)
            self.barred(book, Taken, "name", "ann", book.hand, 3, "ann", "ann", thing)
            self.barred(book, NoNumber, "thing", thing, book.hand, 3, "ann", "bob", thing)
        for thing in NO_DAYS:
            self.barred(book, NoDay, "day", thing, book.hand, thing, "ann", "bob", Share(1))
            self.barred(book, NoDay, "day", thing, book.hand, thing, thing, thing, thing)
        self.barred(book, Taken, "name", "bob", book.hand, 3, "bob", "bob", Share(1))
        for share in [Share(0), Share(-1), Share(-1, 10 ** 29)]:
            self.barred(book, NoNumber, "thing", share, book.hand, 3, "ann", "bob", share)
        for thing in [Person("ann"), Ride(3, "ann"), [Share(1)], (1, 2), "1/2", 1]:
            self.barred(book, NoNumber, "thing", thing, book.hand, 3, "ann", "bob", thing)
        self.assertIsNone(book.hand(3, "ann", "bob", Share(1, 10 ** 29)))


class Leaving(BookCase):
    def test_paid_off(self):
        book = book_of(FOLK, [TRIP, Ride(6, "bob", [("cid", 0, 1)]), Ride(6, "eve", [("dan", 0, 1)])])
        book.leave("eve", 0)
        standing = book.stands()
        told = book.leave("bob", 9)
        self.assertEqual(told, paid_off(standing, "bob"))
        self.assertEqual(told, [("dan", "bob", Share(1, 2)), ("ann", "bob", Share(1, 3)), ("cid", "bob", Share(1, 3))])
        self.assertEqual(book.handed(), [(0, "cid", "eve", Share(1, 2)), (9, "ann", "bob", Share(1, 3)),
                                         (9, "cid", "bob", Share(1, 3)), (9, "dan", "bob", Share(1, 2))])
        self.assertEqual(book.stands()["bob"], Share(0))
        self.assertEqual((book.names(), book.gone()), (["ann", "cid", "dan"], ["bob", "eve"]))

    def test_by_credits_of_who_is_out_and_of_all_days(self):
        book = book_of(["ann", "bob", "cid"])
        book.leave("cid", 0)
        book.tell(Ride(900, "ann", [("cid", 0, 1)]))
        self.assertEqual(book.leave("ann", 3), [("cid", "ann", Share(1, 2))])
        self.assertEqual(book.handed(), [(3, "cid", "ann", Share(1, 2))])
        self.assertEqual(book.stands(3), {"ann": Share(-1, 2), "bob": Share(0), "cid": Share(1, 2)})
        self.assertEqual(book.stands(), {"ann": Share(0), "bob": Share(0), "cid": Share(0)})

    def test_refusals_in_their_order(self):
        book = book_of(["ann", "bob"])
        book.leave("bob", 0)
        for thing in [thing for thing in THINGS if thing != "ann"] + ["bob", "zoe"]:
            self.barred(book, NoName, "name", thing, book.leave, thing, 3)
            self.barred(book, NoName, "name", thing, book.leave, thing, None)
        for thing in NO_DAYS:
            self.barred(book, NoDay, "day", thing, book.leave, "ann", thing)
            self.barred(book, NoDay, "day", thing, book.leave, day=thing, name="ann")


class Told(BookCase):
    def setUp(self):
        self.book = book_of(FOLK, [TRIP, LATE, Ride(5, "ann", [("dan", 0, 1)])], [(4, "ann", "bob", Share(1, 3)), (9, "cid", "dan", Share(2))])

    def test_rides_of_a_day(self):
        self.assertEqual(self.book.rides(5), [Ride(5, "ann", [("dan", 0, 1)]), TRIP])
        self.assertEqual(self.book.rides(day=3), [LATE])
        self.assertEqual(self.book.rides(4), [])
        self.assertEqual(self.book.rides(None), self.book.rides())
        self.assertEqual(len(self.book.rides(day=None)), 3)

    def test_stands_up_to_a_day(self):
        for day in [0, 2, 3, 4, 5, 8, 9, 10, 1000000]:
            rides = [ride for ride in self.book.rides() if ride.day <= day]
            handed = [one for one in self.book.handed() if one[0] <= day]
            told = self.book.stands(day=day)
            self.assertEqual({name: worth(share) for name, share in told.items()}, summed(rides, handed, FOLK))
            self.assertEqual(total(list(told.values())), Share(0))
        self.assertEqual(self.book.stands(1000000), self.book.stands())
        self.assertEqual(self.book.stands(None), self.book.stands())

    def test_days_that_are_none(self):
        for thing in [thing for thing in NO_DAYS if thing is not None]:
            self.barred(self.book, NoDay, "day", thing, self.book.rides, thing)
            self.barred(self.book, NoDay, "day", thing, self.book.stands, day=thing)

    def test_told_things_changed(self):
        book = self.book
        book.leave("eve", 9)
        before = copy.deepcopy(state(book))
        for told in [book.names(), book.gone(), book.rides(), book.handed(), book.stands(), book.stands(9), book.rides(5)]:
            self.assertTrue(told)
            told.clear()
            self.assertEqual(state(book), before)
        for ride in book.rides():
            ride.riders().clear()
            ride.late().append("ann")
            ride.day, ride.driver, ride.worth = 77, "zoe", 5
        for standing in [book.stands(), book.stands(9)]:
            for share in standing.values():
                share.top += 5
        for *_, share in book.handed():
            share.top += 5
        self.assertEqual(state(book), before)

    def test_told_of_deeds_changed(self):
        book = book_of(FOLK)
        ride = Ride(5, "bob", [("ann", 0, 1), ("cid", 0, 1)])
        for call in [lambda: book.tell(ride), lambda: book.take_back(5, "bob"), lambda: book.tell(ride)]:
            told = call()
            before = state(book)
            for share in told.values():
                share.top += 5
            told.clear()
            self.assertEqual(state(book), before)
        told = book.leave("bob", 9)
        before = copy.deepcopy(state(book))
        for *_, share in told:
            share.top += 5
        told.clear()
        self.assertEqual(state(book), before)
        book.undo()
        self.assertEqual(book, book_of(FOLK, [ride]))
        self.assertEqual(book.stands(), book_of(FOLK, [ride]).stands())

    def test_handed_in_things_changed(self):
        book = book_of(FOLK)
        riders, late = [("ann", 0, 1), ("cid", 0, 1)], ["ann"]
        ride, share = Ride(5, "bob", riders, 1, 1, late), Share(1, 2)
        book.tell(ride)
        book.hand(4, "ann", "bob", share)
        before = copy.deepcopy(state(book))
        riders.clear()
        late.clear()
        ride.day, ride.driver, ride.worth = 77, "zoe", 5
        share.top = 7
        self.assertEqual(state(book), before)
        book.take_back(5, "bob")
        book.undo()
        self.assertEqual(state(book), before)


class Alike(BookCase):
    def test_told_in_unlike_orders(self):
        one = book_of(FOLK, [TRIP, LATE], [(4, "ann", "bob", Share(1)), (4, "ann", "bob", Share(2)), (0, "bob", "ann", Share(1))])
        other = book_of(FOLK[::-1], [], [(4, "ann", "bob", Share(2)), (0, "bob", "ann", Share(1))])
        other.tell(Ride(8, "ann"))
        other.tell(LATE)
        self.assertFalse(one == other)
        other.tell(TRIP)
        other.take_back(8, "ann")
        self.assertFalse(one == other)
        other.hand(4, "ann", "bob", Share(1))
        self.assertTrue(one == other)
        self.assertFalse(one != other)
        self.assertEqual(state(one), state(other))

    def test_unequal(self):
        books = [Book(), book_of(["ann", "bob"]), book_of(["ann", "cid"]), book_of(["ann"]), book_of(["ann", "bob"], [Ride(3, "ann")]),
                 book_of(["ann", "bob"], [Ride(3, "ann", worth=2)]), book_of(["ann", "bob"], [Ride(4, "ann")]),
                 book_of(["ann", "bob"], [], [(3, "ann", "bob", Share(1))]), book_of(["ann", "bob"], [], [(3, "ann", "bob", Share(2))]),
                 book_of(["ann", "bob"], [], [(3, "ann", "bob", Share(1))] * 2), book_of(["ann", "bob"], [], [(4, "ann", "bob", Share(1))])]
        books.append(book_of(["ann", "bob"]))
        books[-1].leave("bob", 0)
        for at, one in enumerate(books):
            for place, other in enumerate(books):
                self.assertIs(one == other, at == place)
                self.assertIs(one != other, at != place)

    def test_gone_and_entered_again(self):
        book = book_of(["ann", "bob"])
        book.leave("bob", 0)
        book.enter("bob")
        self.assertTrue(book == book_of(["bob", "ann"]))

    def test_equal_to_nothing_else(self):
        for book in [Book(), book_of(["ann"])]:
            for thing in THINGS + [Share(1), Person("ann"), Ride(3, "ann"), [book], (book,), book.names()]:
                self.assertFalse(book == thing)
                self.assertFalse(thing == book)
                self.assertTrue(book != thing)


class Undoing(BookCase):
    def test_nothing_done(self):
        for book in [Book(), book_of(["ann"])]:
            if book.names():
                book.undo()
            for _ in range(2):
                with self.assertRaises(NothingDone) as caught:
                    book.undo()
                self.assertIs(type(caught.exception), NothingDone)
                self.assertIsInstance(caught.exception.text, str)
            self.assertEqual(state(book), state(Book()))

    def test_each_kind_of_deed(self):
        book = book_of(FOLK, [TRIP, LATE], [(4, "ann", "bob", Share(1))])
        book.leave("eve", 1)
        for deed in [lambda: book.enter("zoe"), lambda: book.enter("eve"), lambda: book.tell(Ride(7, "eve", [("bob", 0, 1)])),
                     lambda: book.take_back(3, "ann"), lambda: book.hand(4, "ann", "bob", Share(1)), lambda: book.leave("bob", 4)]:
            before = state(book)
            deed()
            self.assertNotEqual(state(book), before)
            self.assertIsNone(book.undo())
            self.assertEqual(state(book), before)

    def test_a_ride_of_nobody_else_is_a_deed(self):
        book = book_of(["ann"])
        book.tell(Ride(3, "ann"))
        book.undo()
        self.assertEqual((book.rides(), book.names()), ([], ["ann"]))

    def test_what_is_refused_is_no_deed(self):
        book = book_of(["ann", "bob"])
        for call in [lambda: book.enter("ann"), lambda: book.enter("Ann"), lambda: book.tell(Ride(3, "zoe")), lambda: book.take_back(3, "ann"),
                     lambda: book.hand(3, "ann", "ann", Share(1)), lambda: book.hand(3, "ann", "bob", Share(0)), lambda: book.leave("zoe", 3),
                     lambda: book.leave("ann", -1), lambda: book.rides(-1), lambda: book.stands("x")]:
            self.assertRaises((Taken, BadName, NoName, NoDay, NoNumber), call)
        book.undo()
        self.assertEqual(book.names(), ["ann"])

    def test_all_deeds_one_by_one(self):
        for seed in range(25):
            chance = random.Random(seed)
            book, states = Book(), []
            while len(states) < 40:
                before = copy.deepcopy(state(book))
                try:
                    self.do_by_chance(chance, book)
                except (BadName, NoDay, NoName, NoNumber, Taken):
                    self.assertEqual(state(book), before)
                else:
                    states.append(before)
                    self.assertEqual(total(list(book.stands().values())), Share(0))
                    self.assertEqual({name: worth(share) for name, share in book.stands().items()},
                                     summed(book.rides(), book.handed(), book.names() + book.gone()))
                if states and chance.random() < 0.2:
                    book.undo()
                    self.assertEqual(state(book), states.pop())
            while states:
                book.undo()
                self.assertEqual(state(book), states.pop())
            self.assertRaises(NothingDone, book.undo)

    def do_by_chance(self, chance, book):
        kind = chance.randrange(6)
        if kind == 0:
            book.enter(chance.choice(FOLK))
        elif kind in (1, 2):
            book.tell(ride_by_chance(chance, FOLK[:3] if chance.random() < 0.5 else FOLK))
        elif kind == 3:
            book.take_back(chance.randint(0, 12), chance.choice(FOLK))
        elif kind == 4:
            book.hand(chance.randint(0, 12), chance.choice(FOLK), chance.choice(FOLK), Share(chance.randint(-1, 6), chance.randint(1, 6)))
        else:
            book.leave(chance.choice(FOLK), chance.randint(0, 12))


class Whole(BookCase):
    def test_four_hundred_deeds_in_a_moment(self):
        start = time.monotonic()
        chance = random.Random(1)
        names = FOLK + ["fay", "gus", "hal", "ida", "joe", "kim", "lea"]
        book = book_of(names)
        rides, handed = [], []
        for day in range(250):
            rides.append(ride_by_chance(chance, names, day))
            book.tell(rides[-1])
            book.stands()
        for day in range(138):
            payer, taker = chance.sample(names, 2)
            handed.append((day, payer, taker, Share(chance.randint(1, 10 ** 6), chance.randint(1, 60))))
            book.hand(*handed[-1])
            book.stands(day)
        self.assertEqual({name: worth(share) for name, share in book.stands().items()}, summed(rides, handed, names))
        for _ in range(400):
            book.undo()
        self.assertRaises(NothingDone, book.undo)
        self.assertLess(time.monotonic() - start, 10)

    def test_great_numbers(self):
        start = time.monotonic()
        book = book_of(FOLK)
        chance = random.Random(2)
        for day in range(60):
            book.hand(day, *chance.sample(FOLK, 2), Share(chance.randint(1, 10 ** 29), chance.randint(10 ** 28, 10 ** 29)))
        self.assertEqual(total(list(book.stands().values())), Share(0))
        self.assertEqual(book.stands(1000000), book.stands())
        self.assertEqual(sum([one[3] == Share(0) for one in book.handed()]), 0)
        book.leave("ann", 5)
        self.assertEqual(book.stands()["ann"], Share(0))
        self.assertLess(time.monotonic() - start, 10)

    def test_credits_hang_on_what_was_told_not_on_its_order(self):
        for seed in range(20):
            chance = random.Random(seed)
            rides = {}
            for _ in range(12):
                ride = ride_by_chance(chance, FOLK)
                rides[ride.day, ride.driver] = ride
            deeds = [("tell", (ride,)) for ride in rides.values()]
            deeds += [("hand", (chance.randint(0, 9), *chance.sample(FOLK, 2), Share(chance.randint(1, 9), 7))) for _ in range(8)]
            told = None
            for _ in range(3):
                chance.shuffle(deeds)
                book = book_of(chance.sample(FOLK, 5))
                for word, places in deeds:
                    getattr(book, word)(*places)
                told = told or state(book)
                self.assertEqual(state(book), told)

    def test_two_books_side_by_side(self):
        one, other = Book(), Book()
        one.enter("ann")
        one.tell(Ride(3, "ann"))
        self.assertEqual(state(other), state(Book()))
        self.assertRaises(NothingDone, other.undo)


if __name__ == "__main__":
    unittest.main()
