"""Texts: rows of rides, and books written and read.

What ends in _in reads a part of a text, and tells None where it is no such part.
"""

from rideturns.book import Book
from rideturns.errors import NoName
from rideturns.errors import NoNumber
from rideturns.errors import NoRide
from rideturns.errors import NoShare
from rideturns.errors import NoText
from rideturns.errors import Taken
from rideturns.kinds import is_day
from rideturns.kinds import is_name
from rideturns.rides import Ride
from rideturns.shares import FIGURES
from rideturns.shares import is_number_text
from rideturns.shares import share_of

MOST_FIGURES = 7


def name_in(text):
    """Read a name."""
    return text if is_name(text) else None


def number_in(text):
    """Read a number of one to seven figures, without a 0 ahead but in 0."""
    return int(text) if len(text) <= MOST_FIGURES and is_number_text(text) else None


def day_in(text):
    """Read a day in seven figures."""
    if len(text) != MOST_FIGURES or not all([sign in FIGURES for sign in text]):
        return None
    return int(text) if is_day(int(text)) else None


def share_in(text):
    """Read a Share."""
    try:
        return share_of(text)
    except NoShare:
        return None


def rider_in(text):
    """Read a tuple (name, on, off)."""
    words = text.split(" ")
    return (words[0], number_in(words[1]), number_in(words[2])) if len(words) == 3 else None


def ride_in(text):
    """Read the row of a Ride."""
    aboard, semicolon, late = text.partition("; late ")
    head, colon, riders = aboard.partition(": ")
    words = head.split(" ")
    if len(words) != 4:
        return None
    row = [] if colon == "" else [rider_in(rider) for rider in riders.split(", ")]
    names = [] if semicolon == "" else late.split(" ")
    try:
        ride = Ride(day_in(words[0]), words[1], row, number_in(words[2]), number_in(words[3]), names)
    except NoRide:
        return None
    # What is left has another row of the same ride, such as one that isn't sorted.
    return ride if str(ride) == text else None


def ride_of(text):
    """Read the row of a Ride, just as str writes it."""
    ride = ride_in(text) if isinstance(text, str) else None
    if ride is None:
        raise NoText(0)
    return ride


def written(book):
    """Write a book in rows."""
    rows = [f"in {name}" for name in book.names()]
    rows = rows + [f"out {name}" for name in book.gone()]
    rows = rows + [f"ride {ride}" for ride in book.rides()]
    rows = rows + [f"hand {day:07d} {payer} {taker} {share}" for day, payer, taker, share in book.handed()]
    return "\n".join(rows)


def handed_in(text):
    """Read a tuple (day, payer, taker, share)."""
    words = text.split(" ")
    if len(words) != 4:
        return None
    handed = (day_in(words[0]), name_in(words[1]), name_in(words[2]), share_in(words[3]))
    return None if any([part is None for part in handed]) else handed


def deed_in(text):
    """Read a row of a book, a tuple (kind, worth)."""
    kind, blank, rest = text.partition(" ")
    worth = None
    if kind in ("in", "out"):
        worth = name_in(rest)
    elif kind == "ride":
        worth = ride_in(rest)
    elif kind == "hand":
        worth = handed_in(rest)
    return None if worth is None else (kind, worth)


def deeds_of(text):
    """Read all rows of a book, tuples (number, kind, worth); refuse the first that is none."""
    deeds = []
    for number, row in enumerate(text.split("\n")):
        bare = row.partition("#")[0].strip(" ")
        if bare != "":
            deed = deed_in(bare)
            if deed is None:
                raise NoText(number)
            deeds.append((number, deed[0], deed[1]))
    return deeds


def enter_names(book, deeds):
    """Let all names enter; then, while nobody owes anything yet, those leave that are out."""
    for number, kind, worth in deeds:
        if kind in ("in", "out"):
            try:
                book.enter(worth)
            except Taken:
                raise NoText(number) from None
    for number, kind, worth in deeds:
        if kind == "out":
            book.leave(worth, 0)


def tell_deeds(book, deeds):
    """Tell all rides and hand-overs."""
    for number, kind, worth in deeds:
        try:
            if kind == "ride":
                book.tell(worth)
            elif kind == "hand":
                book.hand(worth[0], worth[1], worth[2], worth[3])
        except (NoName, Taken, NoNumber):
            raise NoText(number) from None


def read(text):
    """Read a book, of rows in any order."""
    if not isinstance(text, str):
        raise NoText(0)
    deeds = deeds_of(text)
    book = Book()
    enter_names(book, deeds)
    tell_deeds(book, deeds)
    book.forget()
    return book
