"""A RUN: a NET whose members and wires are put up and down, ROUND by ROUND."""

from ledclocks.errors import NoHouse, NoLink
from ledclocks.net_rounds import state_round
from ledclocks.nets import first_state, state_up


class NetRun:
    """A NET, its STATE, and the wires that are up."""

    def __init__(self, net, *, most=4, age=1):
        self.net = net
        self.most = most
        self.age = age
        self.state = first_state(net)
        self.wires_up = net[1]
        self.turns = []

    def set_up(self, name, truth):
        """Puts a member up or down."""
        self.state = state_up(self.net, self.state, name, truth)

    def set_wire(self, one, other, truth):
        """Puts a wire up or down, its NAMES in either order."""
        wire = (min(one, other), max(one, other))
        if wire not in self.net[1]:
            raise NoLink((one, other))
        wires = [each for each in self.wires_up if each != wire]
        if truth:
            wires.append(wire)
        self.wires_up = tuple(sorted(wires))

    def go_round(self):
        """Does a ROUND: told is how many members have another BEST."""
        behind = state_round(self.net, self.state, self.wires_up, most=self.most, age=self.age)
        turned = len([row for row, elder in zip(behind, self.state) if row[1] != elder[1]])
        self.state = behind
        self.turns.append(turned)
        return turned

    def best_of(self, name):
        """The BEST of a member, None where it isn't up."""
        return self.row_of(name)[1]

    def heard_of(self, name):
        """What a member HAS HEARD."""
        return self.row_of(name)[2]

    def row_of(self, name):
        rows = [row for row in self.state if row[0] == name]
        if len(rows) == 0:
            raise NoHouse(name)
        return rows[0]

    def state_now(self):
        """The STATE."""
        return self.state

    def wires_now(self):
        """The wires that are up, rising."""
        return self.wires_up

    def __len__(self):
        return len(self.turns)

    def __eq__(self, other):
        return (isinstance(other, NetRun) and self.net == other.net and self.most == other.most
                and self.age == other.age and self.state == other.state and self.wires_up == other.wires_up)

    def __ne__(self, other):
        return not self == other
