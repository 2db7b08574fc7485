"""The refusals: each keeps what it was made of as a field, and its message never hangs on it.

A message that showed the thing could itself fail, as the thing may be anything.
"""


class NoKind(TypeError):
    """What is handed in is no whole number."""

    def __init__(self, thing):
        TypeError.__init__(self, "this is no whole number")
        self.thing = thing


class Nought(ZeroDivisionError):
    """Something is to be parted by nought."""

    def __init__(self, top):
        ZeroDivisionError.__init__(self, "nothing is parted by nought")
        self.top = top


class NoShare(ArithmeticError):
    """What is to be read is not the text of a Share."""

    def __init__(self, text):
        ArithmeticError.__init__(self, "this is not the text of a share")
        self.text = text


class Uneven(ArithmeticError):
    """Credits are not nought together."""

    def __init__(self, rest):
        ArithmeticError.__init__(self, "the credits are not nought together")
        self.rest = rest


class BadName(ValueError):
    """What is handed in is no name."""

    def __init__(self, name):
        ValueError.__init__(self, "this is no name")
        self.name = name


class NoNumber(ValueError):
    """What is handed in is not such a number as is wanted there."""

    def __init__(self, thing):
        ValueError.__init__(self, "this is no number that fits here")
        self.thing = thing


class NoRide(ValueError):
    """No ride can be made; the reason says what is wrong first."""

    def __init__(self, reason):
        ValueError.__init__(self, "no ride can be made of this")
        self.reason = reason


class NoText(ValueError):
    """A text can't be read; the row says where."""

    def __init__(self, row):
        ValueError.__init__(self, "this text can't be read")
        self.row = row


class NoName(KeyError):
    """What is handed in is none of the names that are known there."""

    def __init__(self, name):
        KeyError.__init__(self, "this name is not known here")
        self.name = name


class NoDay(LookupError):
    """What is handed in is no day, or none that is known there."""

    def __init__(self, day):
        LookupError.__init__(self, "this is no day that fits here")
        self.day = day


class NoSeats(IndexError):
    """So many seats lack."""

    def __init__(self, lack):
        IndexError.__init__(self, "there are too few seats")
        self.lack = lack


class TooMany(OverflowError):
    """There are more than the most that is let by."""

    def __init__(self, most):
        OverflowError.__init__(self, "there are too many")
        self.most = most


class Taken(RuntimeError):
    """That name has its place already."""

    def __init__(self, name):
        RuntimeError.__init__(self, "this name is taken")
        self.name = name


class NoRule(NotImplementedError):
    """What is handed in is no rule of turns that fits there."""

    def __init__(self, thing):
        NotImplementedError.__init__(self, "this is no rule that fits here")
        self.thing = thing


class NothingDone(Exception):
    """There is no deed left to undo."""

    def __init__(self, text):
        Exception.__init__(self, "nothing is left to undo")
        self.text = text


class NoRow(Exception):
    """A row is none of those that are answered."""

    def __init__(self, text):
        Exception.__init__(self, "no such row is answered")
        self.text = text
