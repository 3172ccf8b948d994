"""A KEEPER: it keeps EVENTS one by one, and their KEPT pairs."""

from ledclocks.errors import NoEvent, NoHouse, NoLink, NoNumber
from ledclocks.keptpairs import kept_pair
from ledclocks.moves import drift_of, moves_into
from ledclocks.ratios import is_below


class Keeper:
    """The EVENTS of a FIELD, in the order in which they are noted."""

    def __init__(self, field):
        self.at_field = field
        self.events = []
        self.pairs = []
        self.last_at = {}

    def note(self, house, stamp, deed):
        """Keeps an EVENT more: its number is told."""
        self.bar_place(house, stamp)
        self.bar_deed(house, deed)
        event = (house, stamp, deed)
        number = len(self.events)
        self.pairs.append(self.pair_next(event))
        self.events.append(event)
        self.last_at[house] = number
        return number

    def history(self):
        """The HISTORY that is kept."""
        return (self.at_field, tuple(self.events))

    def pair(self, number):
        """The KEPT pair of an EVENT."""
        self.bar_number(number)
        return self.pairs[number]

    def now(self, house, stamp):
        """The KEPT pair that a mark would have, with nothing noted."""
        self.bar_place(house, stamp)
        return self.pair_next((house, stamp, ("mark",)))

    def pair_next(self, event):
        """The KEPT pair of an EVENT that would come next."""
        moves = moves_into(self.at_field, self.events, self.last_at.get(event[0]), event)
        return kept_pair(self.at_field, event, moves, self.pairs)

    def bar_place(self, house, stamp):
        """Refuses a house that isn't there, a stamp that falls."""
        if drift_of(self.at_field, house) is None:
            raise NoHouse(house)
        last = self.last_at.get(house)
        if last is not None and is_below(stamp, self.events[last][1]):
            raise NoEvent("falls", last)

    def bar_deed(self, house, deed):
        """Refuses a send or a hear that can't be at this house."""
        if deed[0] == "send":
            self.bar_send(house, deed[1])
        if deed[0] == "hear":
            self.bar_hear(house, deed[1])

    def bar_send(self, house, link):
        links = self.at_field[1]
        if not 0 <= link < len(links):
            raise NoLink(link)
        if links[link][0] != house:
            raise NoEvent("from", link)

    def bar_hear(self, house, number):
        self.bar_number(number)
        sent = self.events[number][2]
        if sent[0] != "send":
            raise NoEvent("send", number)
        if self.at_field[1][sent[1]][1] != house:
            raise NoEvent("to", number)

    def bar_number(self, number):
        if not 0 <= number < len(self.events):
            raise NoNumber(number)

    def many_at(self, name):
        """How many EVENTS are of this house."""
        return len([event for event in self.events if event[0] == name])

    def __len__(self):
        return len(self.events)

    def __str__(self):
        return " ".join([f"{house[0]}:{self.many_at(house[0])}" for house in self.at_field[0]])

    def __eq__(self, other):
        return isinstance(other, Keeper) and self.at_field == other.at_field and self.events == other.events

    def __ne__(self, other):
        return not self == other
