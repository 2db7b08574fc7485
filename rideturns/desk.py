"""A desk: rows of words, answered by Wants and a book."""

from rideturns.ahead import plan_ahead
from rideturns.book import Book
from rideturns.errors import NoRow
from rideturns.errors import NoText
from rideturns.folk import Person
from rideturns.handing import settled
from rideturns.masks import mask_of
from rideturns.texts import name_in
from rideturns.texts import number_in
from rideturns.texts import ride_in
from rideturns.texts import share_in
from rideturns.texts import written
from rideturns.wants import Wants


def parted(pieces, sign):
    """Write pieces with a sign between them, or a stroke where there are none."""
    return sign.join(pieces) if len(pieces) > 0 else "-"


def shares_text(shares):
    """Write Shares by names."""
    return parted([f"{name} {shares[name]}" for name in sorted(shares)], "; ")


def handed_text(handed):
    """Write hand-overs."""
    return parted([f"{payer} {taker} {share}" for payer, taker, share in handed], "; ")


def planned_text(day, cars, lack):
    """Write what is planned of one day."""
    pieces = [" ".join([driver, *others]) for driver, others in cars]
    if lack > 0:
        pieces = [f"lack {lack}"]
    return ", ".join([f"{day}", *pieces])


def do_enter(wants, book, worths):
    """Let a Person enter both."""
    name, seats, mask, day = worths
    wants.enter(Person(name, seats, mask), day)
    # Wants have every name that the book has, so the book refuses none that they let by.
    book.enter(name)
    return "ok"


def do_leave(wants, book, worths):
    """Let a name leave both."""
    name, day = worths
    # Asked ahead, Wants refuse what they would refuse of leaving; so nothing is changed where the book refuses.
    wants.wants(name, day)
    handed = book.leave(name, day)
    wants.leave(name, day)
    return handed_text(handed)


def do_weekly(wants, book, worths):
    """Let another mask count."""
    name, mask, day = worths
    wants.weekly(name, mask, day)
    return "ok"


def do_only(wants, book, worths):
    """Tell of one day alone."""
    name, day, want = worths
    wants.only(name, day, want == "yes")
    return "ok"


def do_usual(wants, book, worths):
    """Take back what was told of one day alone."""
    name, day = worths
    wants.usual(name, day)
    return "ok"


def do_sick(wants, book, worths):
    """Let a name be sick."""
    name, first, last = worths
    wants.sick(name, first, last)
    return "ok"


def do_well(wants, book, worths):
    """Let a name be well."""
    name, day = worths
    wants.well(name, day)
    return "ok"


def do_hand(wants, book, worths):
    """Let a hand-over be told."""
    day, payer, taker, share = worths
    book.hand(day, payer, taker, share)
    return "ok"


def do_ride(wants, book, worths):
    """Let a ride be told."""
    return shares_text(book.tell(worths[0]))


def do_back(wants, book, worths):
    """Let a ride be out again."""
    day, driver = worths
    return shares_text(book.take_back(day, driver))


def do_undo(wants, book, worths):
    """Undo the book's last deed."""
    book.undo()
    return "ok"


def tell_credits(wants, book, worths):
    """Write the credits of all days, or up to one."""
    return shares_text(book.stands(worths[0] if len(worths) > 0 else None))


def tell_riders(wants, book, worths):
    """Write who wants to ride on a day."""
    return parted(wants.riders(worths[0]), " ")


def tell_plan(wants, book, worths):
    """Write the days planned ahead."""
    first, last = worths
    return parted([planned_text(day, cars, lack) for day, cars, lack in plan_ahead(wants, book, first, last)], "; ")


def tell_settled(wants, book, worths):
    """Write the fewest hand-overs that pay all debts."""
    return handed_text(settled(book.stands()))


def tell_names(wants, book, worths):
    """Write the names that are in."""
    return parted(book.names(), " ")


def tell_gone(wants, book, worths):
    """Write the names that are out."""
    return parted(book.gone(), " ")


def tell_text(wants, book, worths):
    """Write the book."""
    return written(book)


def mask_in(text):
    """Read a mask, or tell None."""
    try:
        return mask_of(text)
    except NoText:
        return None


ROWS = {
    "enter NAME SEATS MASK DAY": do_enter,
    "leave NAME DAY": do_leave,
    "weekly NAME MASK DAY": do_weekly,
    "only NAME DAY yes": do_only,
    "only NAME DAY no": do_only,
    "usual NAME DAY": do_usual,
    "sick NAME DAY DAY": do_sick,
    "well NAME DAY": do_well,
    "hand DAY NAME NAME SHARE": do_hand,
    "ride ROW": do_ride,
    "back DAY NAME": do_back,
    "undo": do_undo,
    "credits": tell_credits,
    "credits DAY": tell_credits,
    "riders DAY": tell_riders,
    "plan DAY DAY": tell_plan,
    "settle": tell_settled,
    "names": tell_names,
    "gone": tell_gone,
    "text": tell_text,
}


def worth_of(word, text):
    """Tell what a text says in the place of a form's word, or None where it doesn't fit."""
    if word == "NAME":
        return name_in(text)
    if word in ("SEATS", "DAY"):
        return number_in(text)
    if word == "MASK":
        return mask_in(text)
    if word == "SHARE":
        return share_in(text)
    if word == "ROW":
        return ride_in(text)
    return text if text == word else None


def worths_of(form, row):
    """Tell what a row says behind its first word, a list, or None where it isn't of the form."""
    words = form.split(" ")
    # The last word takes all that is left: a ride's row has blanks in it, in all else they don't fit.
    texts = row.split(" ", len(words) - 1)
    if len(texts) != len(words) or texts[0] != words[0]:
        return None
    worths = [worth_of(word, text) for word, text in zip(words[1:], texts[1:])]
    return None if any([worth is None for worth in worths]) else worths


class Desk:
    """Wants and a book, and the rows that they answer."""

    def __init__(self):
        self.wanting = Wants()
        self.book = Book()

    def answer(self, row):
        """Answer a row with a text."""
        if isinstance(row, str):
            for form in ROWS:
                worths = worths_of(form, row)
                if worths is not None:
                    action = ROWS[form]
                    return action(self.wanting, self.book, worths)
        raise NoRow("no row of a desk")
