"""A COURT: a KEEPER of a FIELD and a RUN of a NET, led by rows of deeds that can be told, undone and done again."""

from ledclocks.errors import NoStep
from ledclocks.followers import follows_of, leaders_of
from ledclocks.hearing import bar_number
from ledclocks.keepers import Keeper
from ledclocks.majorities import by_majority
from ledclocks.net_runs import NetRun
from ledclocks.ratios import added_told
from ledclocks.ringfinding import world_or_ring
from ledclocks.sourcing import by_heard
from ledclocks.stretching import stretch_of
from ledclocks.texts import log_lines


class Court:
    """A HISTORY and a NET, and the LOG of all deeds that led to them."""

    def __init__(self, field, members, wires, *, most=4, age=1):
        self.head = ("court", field, members, wires, most, age)
        self.rows = []
        self.keeper = Keeper(field)
        self.run = NetRun((members, wires), most=most, age=age)
        self.walking = 0

    def note(self, house, stamp, deed):
        """Notes an EVENT more: its number is told."""
        number = self.keeper.note(house, stamp, deed)
        self.rows.append(("note", house, stamp, deed))
        return number

    def up(self, name, truth):
        """Puts a member up or down."""
        self.run.set_up(name, truth)
        self.rows.append(("up", name, truth))

    def wire(self, one, other, truth):
        """Puts a wire up or down, its NAMES in either order."""
        self.run.set_wire(one, other, truth)
        self.rows.append(("wire", one, other, truth))

    def go_round(self):
        """Does a ROUND: told is how many BESTS are others than ahead."""
        turned = self.run.go_round()
        self.rows.append(("round",))
        return turned

    def field(self):
        """The FIELD."""
        return self.head[1]

    def history(self):
        """The HISTORY."""
        return self.keeper.history()

    def kept(self, number):
        """The KEPT pair of an EVENT."""
        return self.keeper.pair(number)

    def heard(self, number):
        """The HEARD pair of an EVENT: the SOURCE TIME at it by the PART that it HAS HEARD."""
        return by_heard(self.history(), number)

    def now(self, house, stamp):
        """The KEPT pair that a mark would have, with nothing noted."""
        return self.keeper.now(house, stamp)

    def stands(self):
        """("world", WORLD), any that FITS, or ("ring", RING), any that bars all WORLDS."""
        return world_or_ring(self.history())

    def best(self, name):
        """The BEST of a member, None where it isn't up."""
        return self.run.best_of(name)

    def follows(self):
        """The pairs (name, who) of the members that follow another one."""
        return follows_of(self.run.state_now())

    def leaders(self):
        """The members that are up and have themselves as their BEST."""
        return leaders_of(self.run.state_now())

    def agreed(self, events, *, liars=0):
        """What a majority holds of the KEPT pairs of EVENTS, each moved to the one that stands last."""
        history = self.history()
        for number in events:
            bar_number(history, number)
        spans = [moved_pair(self.kept(number), stretch_of(history, number, events[-1])) for number in events]
        return by_majority(tuple(spans), liars=liars)

    def log(self):
        """The LOG: the first row, and a row for each deed."""
        return (self.head, *self.rows)

    def elder(self, k):
        """The HISTORY behind the first k deeds."""
        if not 0 <= k <= len(self.rows):
            raise NoStep(k)
        return (self.head[1], tuple([row[1:] for row in self.rows[:k] if row[0] == "note"]))

    def undo(self):
        """Undoes the last deed: its row is told."""
        if len(self.rows) == 0:
            raise NoStep(0)
        row = self.rows[-1]
        self.take_over(self.twin(self.rows[:-1]))
        return row

    def do_all(self, deeds, *, keep=False):
        """Does rows of deeds, all or none, but where keep is True those ahead of a refusal: told is how many."""
        self.walking += 1
        try:
            self.walk(deeds, keep)
        finally:
            self.walking -= 1
        return len(deeds)

    def walk(self, deeds, keep):
        """Does rows one by one; at a twin, unless keep is True, so that a refusal changes nothing here."""
        court = self if keep else self.twin(self.rows)
        for row in deeds:
            court.do_row(row)
        self.take_over(court)

    def walks(self):
        """How many walks through rows are being done."""
        return self.walking

    def do_row(self, row):
        """Does one row: what the deed tells is told."""
        if row[0] == "note":
            return self.note(row[1], row[2], row[3])
        if row[0] == "up":
            return self.up(row[1], row[2])
        if row[0] == "wire":
            return self.wire(row[1], row[2], row[3])
        return self.go_round()

    def twin(self, rows):
        """Another COURT of the same first row, at which these rows were done."""
        word, field, members, wires, most, age = self.head
        court = Court(field, members, wires, most=most, age=age)
        for row in rows:
            court.do_row(row)
        return court

    def take_over(self, court):
        """Is what another COURT of the same first row is, which is not used any more."""
        self.rows = court.rows
        self.keeper = court.keeper
        self.run = court.run

    def __len__(self):
        return len(self.rows)

    def __str__(self):
        return " / ".join(log_lines(self.log()))

    def __eq__(self, other):
        return isinstance(other, Court) and self.head == other.head and self.rows == other.rows

    def __ne__(self, other):
        return not self == other


def moved_pair(pair, stretch):
    """A pair with the ends of a STRETCH added, None where either is."""
    return (added_told(pair[0], stretch[0]), added_told(pair[1], stretch[1]))
