"""The refusals: errors with fields, under two bases.

Each keeps the very things that it was made of and looks at none of them.
"""


class ClockError(ValueError):
    """The base of what is refused because it is wrong; never raised itself."""


class LackError(LookupError):
    """The base of what is refused because it isn't there; never raised itself."""


class NoPaper(ClockError):
    """A checker doesn't let a paper by."""

    def __init__(self, word, at):
        self.word = word
        self.at = at


class NoWorld(ClockError):
    """No WORLD FITS: a RING bars all."""

    def __init__(self, ring):
        self.ring = ring


class NoEvent(ClockError):
    """A thing can't stand as the next EVENT."""

    def __init__(self, word, at):
        self.word = word
        self.at = at


class Lied(ClockError):
    """No FRACTION is HELD: so many liars, at least, would have to be."""

    def __init__(self, many):
        self.many = many


class NoText(ClockError):
    """A text writes no row, lines write no LOG."""

    def __init__(self, row, word):
        self.row = row
        self.word = word


class NoRow(ClockError):
    """A desk has no answer to a row."""

    def __init__(self, row):
        self.row = row


class NoHouse(LackError):
    """There is no HOUSE, no member of this name."""

    def __init__(self, name):
        self.name = name


class NoLink(LackError):
    """There is no such LINK, no such wire."""

    def __init__(self, number):
        self.number = number


class NoNumber(LackError):
    """There is no EVENT of this number."""

    def __init__(self, number):
        self.number = number


class NoStep(LackError):
    """There are no deeds so far back."""

    def __init__(self, number):
        self.number = number
