"""Texts: points [35] and [36]."""

import copy
import random
import time
import unittest

from rideturns.book import Book
from rideturns.errors import NothingDone, NoText
from rideturns.rides import Ride
from rideturns.shares import Share
from rideturns.texts import read, ride_of, written
from tests.test_book import FOLK, LATE, TRIP, book_of, ride_by_chance, state
from tests.test_rides import by_chance
from tests.things import THINGS, refused

ROW = "0000003 ann 4 1: bob 0 2, cid 1 4; late bob"
SIGNS = [chr(at) for at in range(32, 127) if chr(at) != chr(37)] + ["\n"]


class RideRows(unittest.TestCase):
    def no_row(self, text):
        refused(self, NoText, "row", 0, ride_of, text)

    def test_rows(self):
        self.assertEqual(ride_of(ROW), Ride(3, "ann", [("bob", 0, 2), ("cid", 1, 4)], 4, 1, ["bob"]))
        self.assertEqual(ride_of(text="0000000 ann 1 1"), Ride(0, "ann"))
        self.assertEqual(ride_of("1000000 abcdefgh 12 1000: z 0 12"), Ride(1000000, "abcdefgh", [("z", 0, 12)], 12, 1000))

    def test_every_row_that_str_tells(self):
        for seed in range(300):
            ride = by_chance(seed)
            self.assertEqual(ride_of(str(ride)), ride)
            self.assertIs(type(ride_of(str(ride))), Ride)

    def test_a_late_one_of_that_name(self):
        ride = Ride(3, "late", [("a", 0, 1), ("lateb", 0, 1)], late=["lateb"])
        self.assertEqual(ride_of(str(ride)), ride)

    def test_a_sign_more_fewer_or_another(self):
        for row in [ROW, "0000012 ann 1 10", "0000003 ann 2 1: bob 0 2, cid 1 2; late bob cid"]:
            for at in range(len(row) + 1):
                texts = [row[:at] + sign + row[at:] for sign in SIGNS] + [row[:at] + row[at + 1:]]
                texts += [row[:at] + sign + row[at + 1:] for sign in SIGNS if at < len(row)]
                for text in texts:
                    # What can be read is written so again; all else is refused.
                    try:
                        ride = ride_of(text)
                    except NoText as refusal:
                        self.assertEqual(refusal.row, 0)
                    else:
                        self.assertEqual(str(ride), text)

    def test_texts_that_are_none(self):
        for text in [
            "", " ", "0000003", "0000003 ann", "0000003 ann 1", "0000003 ann 1 1 1", " 0000003 ann 1 1", "0000003 ann 1 1 ", "0000003 ann 1 1\n",
            "3 ann 1 1", "000003 ann 1 1", "00000003 ann 1 1", "1000001 ann 1 1", "9999999 ann 1 1", "-000003 ann 1 1", "+000003 ann 1 1",
            "0000003 Ann 1 1", "0000003  ann 1 1", "0000003 abcdefghi 1 1", "0000003 ann 01 1", "0000003 ann 0 1", "0000003 ann 13 1",
            "0000003 ann 1 01", "0000003 ann 1 0", "0000003 ann 1 1001", "0000003 ann 1 -1", "0000003 ann +1 1", "0000003 ann 1 1_0",
            "0000003 ann 1 1:", "0000003 ann 1 1: ", "0000003 ann 1 1:bob 0 1", "0000003 ann 1 1 : bob 0 1", "0000003 ann 1 1: bob 0 1,",
            "0000003 ann 1 1: bob 0 1, ", "0000003 ann 1 1: bob 0 1,cid 0 1", "0000003 ann 1 1: bob 0 1,  cid 0 1", "0000003 ann 1 1: cid 0 1, bob 0 1",
            "0000003 ann 1 1: bob 0 1, bob 0 1", "0000003 ann 1 1: ann 0 1", "0000003 ann 1 1: bob 0 2", "0000003 ann 1 1: bob 1 1",
            "0000003 ann 2 1: bob 01 2", "0000003 ann 2 1: bob 00 2", "0000003 ann 2 1: bob 0 02", "0000003 ann 1 1: bob -1 1", "0000003 ann 1 1: bob 0",
            "0000003 ann 1 1: bob 0 1 2", "0000003 ann 1 1: Bob 0 1", "0000003 ann 1 1; late bob", "0000003 ann 1 1: bob 0 1; late",
            "0000003 ann 1 1: bob 0 1; late ", "0000003 ann 1 1: bob 0 1;late bob", "0000003 ann 1 1: bob 0 1; bob", "0000003 ann 1 1: bob 0 1; late ann",
            "0000003 ann 1 1: bob 0 1; late bob bob", "0000003 ann 1 1: bob 0 1; late  bob", "0000003 ann 1 1: bob 0 1; late bob ",
            "0000003 ann 1 1: bob 0 1, cid 0 1; late cid bob", "0000003 ann 1 1: bob 0 1; late cid", "0000003 ann 1 1: bob 0 1; late bob; late bob",
            "0000003 ann 1 1: bob 0 1: cid 0 1", "0000003 ann 1 1: bob 0 1; Late bob", "ride 0000003 ann 1 1", "0000003 ann 1 1#", "0000003\tann 1 1",
            "0000003 ann 1 1: " + ", ".join(f"{name} 0 1" for name in "bcdefghijklm"), "0000003 ann 1 " + "1" * 30000, "1" * 40000,
            "0000003 ann 1 1: bob 0 " + "9" * 30000, "0" * 39990 + " ann 1 1", chr(1635) * 7 + " ann 1 1", "0000003 ann " + chr(178) + " 1",
            "0000003 ann 1 1: bob 0 " + chr(1633), "0000003" + chr(160) + "ann 1 1",
        ]:
            self.no_row(text)

    def test_things_of_all_kinds(self):
        for thing in THINGS + [[ROW], (ROW,), {ROW: ROW}, 3, list(ROW)]:
            self.no_row(thing)


class Written(unittest.TestCase):
    def test_of_nothing(self):
        self.assertEqual(written(Book()), "")
        self.assertEqual(written(book=book_of(["ann"])), "in ann")

    def test_rows_in_their_order(self):
        book = book_of(["eve", "bob", "ann", "cid", "dan"], [TRIP, LATE, Ride(5, "ann")], [(9, "bob", "ann", Share(7, 3)), (4, "ann", "bob", Share(2))])
        book.leave("eve", 1)
        book.leave("dan", 1)
        before = state(book)
        self.assertEqual(written(book).split("\n"), [
            "in ann", "in bob", "in cid", "out dan", "out eve", f"ride {LATE}", "ride 0000005 ann 1 1", "ride 0000005 bob 1 1: ann 0 1, cid 0 1",
            "hand 0000004 ann bob 2", "hand 0000009 bob ann 7/3"])
        self.assertEqual(state(book), before)

    def test_there_and_back(self):
        for seed in range(60):
            chance = random.Random(seed)
            book = book_of(chance.sample(FOLK, 5))
            for _ in range(chance.randint(0, 12)):
                ride = ride_by_chance(chance, FOLK)
                if not [one for one in book.rides(ride.day) if one.driver == ride.driver]:
                    book.tell(ride)
                book.hand(chance.randint(0, 9), *chance.sample(FOLK, 2), Share(chance.randint(1, 10 ** 29), chance.randint(1, 9)))
            for name in chance.sample(FOLK, chance.randint(0, 5)):
                book.leave(name, chance.randint(0, 1000000))
            # Rides told late, of who is out.
            book.tell(Ride(999, "ann", [("bob", 0, 1)]))
            text = written(book)
            told = read(text)
            self.assertEqual(told, book)
            self.assertEqual(state(told), state(book))
            self.assertEqual(written(told), text)
            rows = text.split("\n")
            chance.shuffle(rows)
            self.assertEqual(state(read("\n".join(rows))), state(book))
            self.assertRaises(NothingDone, told.undo)

    def test_a_great_book_in_a_moment(self):
        start = time.monotonic()
        book = book_of(FOLK, [Ride(day, FOLK[day % 5], [(FOLK[(day + 1) % 5], 0, 1)]) for day in range(395)])
        self.assertEqual(read(written(book)), book)
        self.assertLess(time.monotonic() - start, 5)


class Read(unittest.TestCase):
    def no_text(self, row, text):
        refused(self, NoText, "row", row, read, text)
        # One remark ahead of all else, and each number is one more.
        refused(self, NoText, "row", row + 1, read, "# what follows is wrong\n" + text)

    def test_of_nothing(self):
        for text in ["", "\n", " ", "#", "# in ann", "\n\n   \n#x#y\n  # in ann\n"]:
            self.assertEqual(read(text), Book())
        self.assertEqual(state(read(text="")), state(Book()))

    def test_rows_remarks_and_blanks(self):
        text = "hand 0000004 ann bob 1/2 # paid # twice\n\n  ride 0000003 ann 1 1: bob 0 1   \n#out zoe\n   out bob#gone\nin ann\n   \n"
        book = Book()
        book.enter("ann")
        book.enter("bob")
        book.leave("bob", 0)
        book.tell(Ride(3, "ann", [("bob", 0, 1)]))
        book.hand(4, "ann", "bob", Share(1, 2))
        self.assertEqual(read(text), book)
        self.assertEqual(read(text).stands(), {"ann": Share(1), "bob": Share(-1)})

    def test_nothing_is_left_to_undo_and_then_only_what_is_done(self):
        book = read("in ann\nout bob\nride 0000003 ann 1 1")
        with self.assertRaises(NothingDone):
            book.undo()
        self.assertEqual((book.names(), book.gone(), len(book)), (["ann"], ["bob"], 1))
        book.enter("bob")
        book.undo()
        with self.assertRaises(NothingDone):
            book.undo()
        self.assertEqual(book.gone(), ["bob"])

    def test_who_is_out_is_not_paid_off_by_reading(self):
        book = read("ride 0000003 ann 1 1: bob 0 1\nout ann\nin bob")
        self.assertEqual(book.stands(), {"ann": Share(1, 2), "bob": Share(-1, 2)})
        self.assertEqual(book.handed(), [])

    def test_a_read_book_goes_on(self):
        book = read("ride 0000003 ann 1 1: bob 0 1\nin ann\nin bob")
        self.assertEqual(book.leave("ann", 9), [("bob", "ann", Share(1, 2))])
        self.assertEqual(written(book), "in bob\nout ann\nride 0000003 ann 1 1: bob 0 1\nhand 0000009 bob ann 1/2")

    def test_rows_that_are_none(self):
        for row in [
            "x", "in", "out", "ride", "hand", "in  ann", "in ann bob", "in Ann", "in abcdefghi", "inn ann", "In ann", "in\tann", "out  ann", "out ann 3",
            "in a1", "ride  0000003 ann 1 1", "ride 3 ann 1 1", "ride 0000003 ann 1 1: zoe 0 1, bob 0 1", "ride 1000001 ann 1 1", "ride 0000003 ann 1 1:",
            "hand 0000003 ann bob", "hand 0000003 ann bob 1 1", "hand 3 ann bob 1", "hand 00000003 ann bob 1", "hand 1000001 ann bob 1",
            "hand 0000003 ann bob 2/4", "hand 0000003 ann bob 3/1", "hand 0000003 ann bob 1/0", "hand 0000003 ann bob x", "hand 0000003 Ann bob 1",
            "hand 0000003 ann Bob 1", "hand  0000003 ann bob 1", "hand 0000003 ann bob 1/-2", "hand 0000003 ann bob +1", "hand 0000003 ann bob -0",
            "hand -000003 ann bob 1", "back 3 ann", "0000003 ann 1 1", ", in ann", "in ann;", "in ann in bob", "hand 0000003 ann bob 01",
            "hands 0000003 ann bob 1", "back 0000003 ann bob 1", "rides 0000003 ann 1 1", "off ann",
        ]:
            self.no_text(0, row)
            self.no_text(2, "in ann\nin bob\n" + row + "\nx")
            self.no_text(2, "in ann\nin ann\n  " + row + "  # a remark")
            self.no_text(1, "ride 0000003 zoe 1 1\n" + row)
            self.no_text(2, "hand 0000003 ann ann 0\nin ann\n" + row + "\nin ann")

    def test_line_feeds_alone_part_rows(self):
        for sign in ["\r", "\t", "\v", "\f", chr(133), chr(8232), ";"]:
            self.no_text(0, "in ann" + sign)
            self.no_text(0, "in ann" + sign + "in bob")
            self.no_text(1, "\n" + sign + "in bob")

    def test_names_twice(self):
        for one, other in [("in", "in"), ("in", "out"), ("out", "in"), ("out", "out")]:
            self.no_text(1, f"{one} ann\n{other} ann")
            self.no_text(3, f"{one} ann\nin bob\n\n {other} ann # again\nin bob")
            self.no_text(4, f"ride 0000003 zoe 1 1\n{one} ann\nhand 0000003 ann ann 0\nin bob\n{other} ann")

    def test_rides_and_hand_overs(self):
        for row in [
            "ride 0000003 zoe 1 1", "ride 0000003 ann 1 1: zoe 0 1", "ride 0000009 bob 1 1", "ride 0000009 bob 2 3: ann 0 1", "hand 0000003 zoe ann 1",
            "hand 0000003 ann zoe 1", "hand 0000003 zoe zoe 1", "hand 0000003 ann ann 1", "hand 0000003 ann bob 0", "hand 0000003 ann bob -1",
            "hand 0000003 ann bob -1/2", "hand 0000003 zoe cid 0",
        ]:
            head = "in ann\nride 0000009 bob 1 1: ann 0 1"
            self.no_text(2, f"{head}\n{row}\nout bob")
            self.no_text(4, f"{head}\n\nin cid#\n  {row}\nout bob\nhand 0000003 zoe yan -1\nride 0000009 bob 1 1")
        self.no_text(0, "ride 0000003 ann 1 1")
        self.no_text(0, "hand 0000003 ann bob 1")
        self.no_text(1, "in ann\nhand 0000003 ann bob 1\nride 0000003 bob 1 1")
        self.no_text(1, "in ann\nride 0000003 bob 1 1\nhand 0000003 ann bob 1")

    def test_same_hand_overs_are_let_by(self):
        self.assertEqual(len(read("in ann\nin bob\nhand 0000003 ann bob 1\nhand 0000003 ann bob 1").handed()), 2)

    def test_things_of_all_kinds(self):
        for thing in THINGS:
            if not isinstance(thing, str) or thing.strip(" \n"):
                refused(self, NoText, "row", 0, read, thing)
        for thing in [["in ann"], ("in ann",), {"in ann": 1}]:
            refused(self, NoText, "row", 0, read, text=thing)

    def test_long_texts(self):
        self.assertEqual(read("\n" * 40000), Book())
        self.assertEqual(read("#" * 40000), Book())
        self.assertEqual(read(" " * 39993 + "in ann").names(), ["ann"])
        self.no_text(0, "in " + "a" * 39997)
        self.no_text(19999, "#\n" * 19999 + "x")

    def test_what_is_read_is_a_book_of_its_own(self):
        text = "in ann\nin bob\nride 0000003 ann 1 1: bob 0 1"
        one, other = read(text), read(text)
        one.leave("ann", 4)
        one.rides().clear()
        self.assertEqual(written(other), text)
        self.assertEqual(copy.deepcopy(other), read(text))


if __name__ == "__main__":
    unittest.main()
