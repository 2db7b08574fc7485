"""A desk: point [37]."""

import random
import unittest

from rideturns.ahead import plan_ahead
from rideturns.book import Book
from rideturns.desk import Desk
from rideturns.errors import NoDay, NoName, NoNumber, NoRow, NothingDone, Taken, TooMany
from rideturns.folk import Person
from rideturns.handing import settled
from rideturns.masks import mask_text
from rideturns.shares import Share
from rideturns.texts import read, written
from rideturns.wants import Wants
from tests.coming import NAMES
from tests.test_book import ride_by_chance
from tests.things import THINGS, refused

# One row of each kind that a desk with ann, bob and cid, and a ride of ann's on day 3, answers.
GOOD = ["enter dan 4 1f 0", "weekly ann 7f 3", "only ann 3 yes", "only ann 3 no", "usual ann 9", "sick ann 3 4", "well ann 3", "hand 3 ann bob 1/2",
        "leave ann 3", "ride 0000003 bob 1 1: ann 0 1; late ann", "back 3 ann", "undo", "credits", "credits 3", "riders 3", "plan 3 4", "settle",
        "names", "gone", "text"]
REFUSALS = (NoDay, NoName, NoNumber, NoRow, NothingDone, Taken, TooMany)


def desk_of(*rows):
    desk = Desk()
    for row in rows:
        desk.answer(row)
    return desk


def full_desk():
    return desk_of("enter ann 4 1f 0", "enter bob 2 7f 0", "enter cid 0 7f 2", "ride 0000003 ann 1 1: bob 0 1, cid 0 1", "only ann 9 yes")


def shown(desk):
    """All that a desk tells."""
    rows = ["names", "gone", "text", "credits", "credits 3", "settle", "plan 0 20"] + [f"riders {day}" for day in range(25)]
    return [desk.answer(row) for row in rows]


def by_names(shares):
    return "; ".join([f"{name} {shares[name]}" for name in sorted(shares)]) or "-"


def handed_over(handed):
    return "; ".join([f"{payer} {taker} {share}" for payer, taker, share in handed]) or "-"


class DeskCase(unittest.TestCase):
    def barred(self, desk, error, field, worth, row):
        """The row is refused, and nothing is changed in Wants or the book."""
        before = shown(desk)
        refused(self, error, field, worth, desk.answer, row)
        self.assertEqual(shown(desk), before)

    def no_row(self, desk, row):
        with self.assertRaises(NoRow) as caught:
            desk.answer(row)
        self.assertIs(type(caught.exception), NoRow)
        self.assertIsInstance(caught.exception.text, str)


class Rows(DeskCase):
    def told(self, desk, pairs):
        for row, answer in pairs:
            self.assertEqual(desk.answer(row), answer, row)

    def test_a_desk_without_names(self):
        self.told(Desk(), [("names", "-"), ("gone", "-"), ("text", ""), ("credits", "-"), ("credits 0", "-"), ("settle", "-"), ("riders 3", "-"),
                           ("plan 0 100", "-")])
        self.assertEqual(Desk().answer(row="names"), "-")

    def test_enter_and_leave(self):
        self.told(Desk(), [
            ("enter bob 0 7f 3", "ok"), ("enter ann 4 1f 0", "ok"), ("names", "ann bob"), ("riders 2", "ann"), ("riders 3", "ann bob"),
            ("riders 5", "bob"), ("leave bob 4", "-"), ("names", "ann"), ("gone", "bob"), ("riders 4", "ann bob"), ("riders 5", "-"),
            ("credits", "ann 0; bob 0"), ("text", "in ann\nout bob")])

    def test_names_with_blanks_between(self):
        desk = desk_of(*[f"enter {name} 4 1f 0" for name in ["eve", "dan", "ann", "cid", "bob"]])
        self.told(desk, [("leave dan 3", "-"), ("leave ann 3", "-"), ("leave cid 3", "-"), ("gone", "ann cid dan"), ("names", "bob eve")])

    def test_wants(self):
        self.told(Desk(), [
            ("enter ann 4 1f 0", "ok"), ("weekly ann 40 7", "ok"), ("riders 6", "-"), ("riders 7", "-"), ("riders 13", "ann"), ("only ann 8 yes", "ok"),
            ("riders 8", "ann"), ("only ann 8 no", "ok"), ("riders 8", "-"), ("only ann 8 yes", "ok"), ("usual ann 8", "ok"), ("riders 8", "-"),
            ("sick ann 13 20", "ok"), ("riders 13", "-"), ("riders 20", "-"), ("riders 27", "ann"), ("well ann 20", "ok"), ("riders 20", "ann"),
            ("riders 13", "-"), ("riders 1000000", "-")])

    def test_rides_and_credits(self):
        self.told(desk_of("enter ann 4 1f 0", "enter bob 2 7f 0", "enter cid 0 7f 2"), [
            ("ride 0000003 bob 1 1: ann 0 1, cid 0 1", "ann -1/3; bob 2/3; cid -1/3"), ("ride 0000004 cid 1 1", "-"),
            ("credits", "ann -1/3; bob 2/3; cid -1/3"), ("credits 2", "ann 0; bob 0; cid 0"), ("credits 3", "ann -1/3; bob 2/3; cid -1/3"),
            ("settle", "ann bob 1/3; cid bob 1/3"), ("hand 2 ann bob 1/3", "ok"), ("credits", "ann 0; bob 1/3; cid -1/3"), ("settle", "cid bob 1/3"),
            ("leave bob 1000000", "cid bob 1/3"), ("settle", "-"),
            ("text", "in ann\nin cid\nout bob\nride 0000003 bob 1 1: ann 0 1, cid 0 1\nride 0000004 cid 1 1\nhand 0000002 ann bob 1/3\nhand 1000000 cid bob 1/3"),
            ("back 3 bob", "ann 1/3; bob -2/3; cid 1/3"), ("back 4 cid", "-"), ("undo", "ok"), ("undo", "ok"), ("undo", "ok"), ("names", "ann bob cid"),
            ("credits 1000000", "ann 0; bob 1/3; cid -1/3")])

    def test_plan(self):
        desk = desk_of("enter ann 3 1f 0", "enter bob 0 1f 0", "enter cid 0 1f 0", "enter dan 2 3f 0", "enter eve 0 17 0", "enter fay 0 10 0")
        self.told(desk, [("plan 3 5", "3, ann bob cid, dan; 4, lack 1; 5, dan"), ("plan 6 6", "-"), ("plan 5 6", "5, dan"), ("plan 4 4", "4, lack 1"),
                         ("plan 7 7", "7, ann bob cid, dan eve"), ("plan 0 0", "0, ann bob cid, dan eve")])

    def test_undo_is_of_the_book_alone(self):
        desk = desk_of("enter ann 4 7f 0", "leave ann 5")
        self.told(desk, [("undo", "ok"), ("names", "ann"), ("riders 6", "-"), ("riders 5", "ann"), ("undo", "ok"), ("names", "-"), ("riders 5", "ann")])
        self.barred(desk, Taken, "name", "ann", "enter ann 4 7f 0")
        self.barred(desk, NoName, "name", "ann", "leave ann 3")
        with self.assertRaises(NothingDone) as caught:
            desk.answer("undo")
        self.assertIs(type(caught.exception), NothingDone)
        self.told(desk, [("only ann 900 no", "ok"), ("plan 5 5", "5, ann"), ("credits", "-")])

    def test_rows_of_wants_are_no_deeds_of_the_book(self):
        desk = full_desk()
        for row in ["weekly ann 7f 3", "only ann 3 no", "usual ann 9", "sick ann 3 4", "well ann 3", "names", "plan 0 5", "settle"]:
            desk.answer(row)
        self.assertEqual(desk.answer("undo"), "ok")
        self.assertEqual(desk.answer("credits"), "ann 0; bob 0; cid 0")

    def test_settle_with_ten_and_with_eleven_names(self):
        desk = desk_of(*[f"enter {name} 4 1f 0" for name in NAMES[:12]])
        for at, name in enumerate(NAMES[1:10]):
            desk.answer(f"ride {at:07d} {NAMES[0]} 1 1: {name} 0 1")
        self.assertEqual(desk.answer("settle").split("; "), [f"{name} aaa 1/2" for name in NAMES[1:10]])
        desk.answer(f"hand 3 {NAMES[10]} {NAMES[0]} 1/7")
        self.barred_settle(desk)
        desk.answer("undo")
        self.assertEqual(len(desk.answer("settle").split("; ")), 9)

    def barred_settle(self, desk):
        refused(self, TooMany, "most", 10, desk.answer, "settle")
        refused(self, TooMany, "most", 10, desk.answer, row="settle")

    def test_two_desks_side_by_side(self):
        one, other = full_desk(), Desk()
        self.assertEqual(shown(other), shown(Desk()))
        other.answer("enter ann 0 00 0")
        self.assertEqual(shown(one), shown(full_desk()))


class ByChance(DeskCase):
    """Rows by chance, answered by what Wants and a book of their own tell."""

    def test_rows(self):
        counts = {True: 0, False: 0}
        for seed in range(40):
            chance = random.Random(seed)
            desk, wants, book = Desk(), Wants(), Book()
            for _ in range(60):
                row, call = self.row_by_chance(chance, wants, book)
                try:
                    answer = call()
                except REFUSALS as refusal:
                    counts[False] += 1
                    with self.assertRaises(type(refusal)) as caught:
                        desk.answer(row)
                    self.assertEqual(vars(caught.exception), vars(refusal) if not isinstance(refusal, NothingDone) else vars(caught.exception))
                else:
                    counts[True] += 1
                    self.assertEqual(desk.answer(row), "ok" if answer is None else answer, row)
                self.assertEqual(desk.answer("text"), written(book))
            self.assertEqual(read(desk.answer("text")), book)
        self.assertGreater(min(counts.values()), 300)

    def row_by_chance(self, chance, wants, book):
        name, other = chance.choice(NAMES[:5]), chance.choice(NAMES[:5])
        day, last = chance.choice([chance.randint(0, 20), 1000000, 1000001]) if chance.random() < 0.2 else chance.randint(0, 20), chance.randint(0, 20)
        mask = chance.randint(0, 127)
        ride = ride_by_chance(chance, NAMES[:5])
        share = Share(chance.randint(-1, 9), chance.randint(1, 5))
        seats = chance.randint(0, 10)

        def enter():
            person = Person(name, seats, mask)
            wants.enter(person, day)
            book.enter(name)

        def leave():
            wants.wants(name, day)
            handed = book.leave(name, day)
            wants.leave(name, day)
            return handed_over(handed)

        def plan():
            pieces = []
            for at, cars, lack in plan_ahead(wants, book, day, last):
                pieces.append(", ".join([str(at)] + [" ".join((driver,) + others) for driver, others in cars] + [f"lack {lack}"] * (lack > 0)))
            return "; ".join(pieces) or "-"

        return chance.choice([
            (f"enter {name} {seats} {mask_text(mask)} {day}", enter), (f"leave {name} {day}", leave),
            (f"weekly {name} {mask_text(mask)} {day}", lambda: wants.weekly(name, mask, day)),
            (f"only {name} {day} yes", lambda: wants.only(name, day)), (f"only {name} {day} no", lambda: wants.only(name, day, False)),
            (f"usual {name} {day}", lambda: wants.usual(name, day)), (f"sick {name} {day} {last}", lambda: wants.sick(name, day, last)),
            (f"well {name} {day}", lambda: wants.well(name, day)), (f"hand {day} {name} {other} {share}", lambda: book.hand(day, name, other, share)),
            (f"ride {ride}", lambda: by_names(book.tell(ride))), (f"ride {ride}", lambda: by_names(book.tell(ride))),
            (f"back {day} {name}", lambda: by_names(book.take_back(day, name))), ("undo", book.undo), ("credits", lambda: by_names(book.stands())),
            (f"credits {day}", lambda: by_names(book.stands(day))), (f"riders {day}", lambda: " ".join(wants.riders(day)) or "-"),
            (f"plan {day} {last}", plan), ("settle", lambda: handed_over(settled(book.stands()))), ("names", lambda: " ".join(book.names()) or "-"),
            ("gone", lambda: " ".join(book.gone()) or "-"), ("text", lambda: written(book)),
        ])


class Refused(DeskCase):
    def test_of_the_stages(self):
        desk = full_desk()
        for row, error, field, worth in [
            ("enter ann 4 1f 0", Taken, "name", "ann"), ("enter dan 10 1f 0", NoNumber, "thing", 10), ("enter ann 10 1f 0", NoNumber, "thing", 10),
            ("enter dan 9999999 1f 1000001", NoNumber, "thing", 9999999), ("enter dan 4 1f 1000001", NoDay, "day", 1000001),
            ("enter ann 4 1f 1000001", Taken, "name", "ann"), ("leave zoe 3", NoName, "name", "zoe"), ("leave zoe 1000001", NoName, "name", "zoe"),
            ("leave ann 1000001", NoDay, "day", 1000001), ("weekly zoe 1f 3", NoName, "name", "zoe"), ("weekly ann 1f 9999999", NoDay, "day", 9999999),
            ("only zoe 3 yes", NoName, "name", "zoe"), ("only ann 1000001 no", NoDay, "day", 1000001), ("usual ann 3", NoDay, "day", 3),
            ("usual zoe 9", NoName, "name", "zoe"), ("usual ann 1000001", NoDay, "day", 1000001), ("sick ann 4 3", NoDay, "day", 3),
            ("sick ann 1000002 1000001", NoDay, "day", 1000002), ("sick ann 3 1000001", NoDay, "day", 1000001), ("sick zoe 4 3", NoName, "name", "zoe"),
            ("well zoe 3", NoName, "name", "zoe"), ("well ann 1000001", NoDay, "day", 1000001), ("hand 1000001 zoe zoe 0", NoDay, "day", 1000001),
            ("hand 3 zoe yan 0", NoName, "name", "zoe"), ("hand 3 ann yan 0", NoName, "name", "yan"), ("hand 3 ann ann 0", Taken, "name", "ann"),
            ("ride 0000003 ann 1 1", Taken, "name", "ann"), ("ride 0000003 ann 1 1: zoe 0 1", NoName, "name", "zoe"),
            ("ride 0000004 zoe 1 1: dan 0 1", NoName, "name", "dan"), ("back 4 ann", NoDay, "day", 4), ("back 3 bob", NoDay, "day", 3),
            ("back 1000001 zoe", NoDay, "day", 1000001), ("credits 1000001", NoDay, "day", 1000001), ("riders 1000001", NoDay, "day", 1000001),
            ("plan 4 3", NoDay, "day", 3), ("plan 1000001 3", NoDay, "day", 1000001), ("plan 3 1000001", NoDay, "day", 1000001),
        ]:
            self.barred(desk, error, field, worth, row)
        for row, share in [("hand 3 ann bob 0", Share(0)), ("hand 3 ann bob -1/2", Share(-1, 2))]:
            before = shown(desk)
            with self.assertRaises(NoNumber) as caught:
                desk.answer(row)
            self.assertEqual(caught.exception.thing, share)
            self.assertEqual(shown(desk), before)

    def test_leaving_twice_changes_nothing_in_wants(self):
        desk = full_desk()
        desk.answer("leave bob 8")
        self.barred(desk, NoName, "name", "bob", "leave bob 2")
        self.assertEqual(desk.answer("riders 8"), "ann bob cid")
        self.barred(desk, NoDay, "day", 1000001, "leave bob 1000001")
        self.barred(desk, Taken, "name", "bob", "enter bob 2 1f 0")

    def test_a_refused_row_is_no_deed(self):
        desk = full_desk()
        for row in ["enter ann 4 1f 0", "enter dan 4 1f 1000001", "leave zoe 3", "hand 3 ann ann 1", "ride 0000003 ann 1 1", "back 9 ann", "x"]:
            self.assertRaises(REFUSALS, desk.answer, row)
        desk.answer("undo")
        self.assertEqual(desk.answer("text"), "in ann\nin bob\nin cid")

    def test_enter_refused_by_wants_alone(self):
        desk = desk_of("enter ann 4 7f 0", "undo")
        self.barred(desk, Taken, "name", "ann", "enter ann 4 7f 0")
        self.assertEqual((desk.answer("names"), desk.answer("riders 0")), ("-", "ann"))


class NoRows(DeskCase):
    def test_good_rows(self):
        for row in GOOD:
            self.assertIsInstance(full_desk().answer(row), str, row)

    def test_a_word_more_or_fewer(self):
        desk = full_desk()
        before = shown(desk)
        for row in GOOD:
            words = row.split(" ")
            for at in range(len(words)):
                fewer = " ".join(words[:at] + words[at + 1:])
                if fewer not in ("credits", "") and not fewer.startswith("ride 0000003"):
                    self.no_row(desk, fewer)
            for word in ["x", "3", "ann", "", "yes"]:
                if row + " " + word != "credits 3":
                    self.no_row(desk, row + " " + word)
                self.no_row(desk, word + " " + row)
        self.assertEqual(shown(desk), before)

    def test_two_blanks_and_blanks_at_the_ends(self):
        desk = full_desk()
        for row in GOOD:
            self.no_row(desk, row + " ")
            self.no_row(desk, " " + row)
            self.no_row(desk, row + "\n")
            self.no_row(desk, "\n" + row)
            for at, sign in enumerate(row):
                if sign == " ":
                    self.no_row(desk, row[:at] + " " + row[at:])
                    self.no_row(desk, row[:at] + "\t" + row[at + 1:])
                    self.no_row(desk, row[:at] + row[at + 1:])

    def test_numbers(self):
        desk = full_desk()
        for form in ["enter dan {} 1f 0", "enter dan 4 1f {}", "weekly ann 7f {}", "only ann {} yes", "only ann {} no", "usual ann {}", "sick ann {} 4",
                     "sick ann 3 {}", "well ann {}", "hand {} ann bob 1/2", "leave ann {}", "back {} ann", "credits {}", "riders {}", "plan {} 4", "plan 3 {}"]:
            for word in ["03", "00", "0000003", "00000003", "12345678", "10000000", "-1", "-0", "+3", "3.0", "1_0", "x", "", "three", "3,", "0x3",
                         chr(1635), chr(178), "1" * 30000]:
                self.no_row(desk, form.format(word))

    def test_names_masks_shares_and_rows(self):
        desk = full_desk()
        for form in ["enter {} 4 1f 0", "leave {} 3", "weekly {} 7f 3", "only {} 3 yes", "usual {} 9", "sick {} 3 4", "well {} 3", "hand 3 {} bob 1",
                     "hand 3 ann {} 1", "back 3 {}"]:
            for word in ["Ann", "abcdefghi", "a1", "", "-", "ANN", "an_n"]:
                self.no_row(desk, form.format(word))
        for form in ["enter dan 4 {} 0", "weekly ann {} 3"]:
            for word in ["80", "ff", "1F", "1", "01f", "", "0x1f", "31f", "-1", " 1", "g0"]:
                self.no_row(desk, form.format(word))
        for word in ["2/4", "1/0", "3/1", "", "x", "1/-2", "+1", "-0", "0/1", "1.5", "1/2/3", "01"]:
            self.no_row(desk, "hand 3 ann bob " + word)
        for row in ["3 ann 1 1", "0000004 ann 1 1:", "0000004 ann 1 1: cid 0 1, bob 0 1", "0000004 ann 0 1", "0000004 ann 13 1", "0000004 ann 1 0",
                    "1000001 ann 1 1", "0000004 ann 1 1: bob 0 2", "0000004 ann 1 1; late bob", "0000004  ann 1 1", "0000004 Ann 1 1", ""]:
            self.no_row(desk, "ride " + row)

    def test_other_words(self):
        desk = full_desk()
        for row in GOOD:
            self.no_row(desk, row.upper())
            self.no_row(desk, row.title())
            self.no_row(desk, row[0].upper() + row[1:])
            self.no_row(desk, row[1:])
            self.no_row(desk, "x" + row)
        for row in ["", " ", "\n", "#", "only ann 3 maybe", "only ann 3 Yes", "only ann 3", "in ann", "out ann", "enter NAME SEATS MASK DAY", "ride ROW",
                    "credits DAY", "riders DAY", "names; gone", "text\n", "undo 1", "settle 3", "answer names"]:
            self.no_row(desk, row)

    def test_things_of_all_kinds(self):
        desk = full_desk()
        before = shown(desk)
        for thing in THINGS + [["names"], ("names",), {"names": "names"}, "names" * 8000, "names " * 6600, "ride " + "1" * 39000]:
            self.no_row(desk, thing)
        self.assertEqual(shown(desk), before)


if __name__ == "__main__":
    unittest.main()
