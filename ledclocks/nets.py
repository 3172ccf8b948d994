"""NETS and their STATES, by kind alone, the FIRST STATE, and members put up or down."""

from ledclocks.errors import NoHouse
from ledclocks.numbers import is_count, is_word, rises


def is_net(thing):
    """Whether thing is a NET (members, wires)."""
    if not isinstance(thing, tuple) or len(thing) != 2:
        return False
    members, wires = thing
    return are_members(members) and are_wires(wires, [member[0] for member in members])


def are_members(thing):
    """Whether thing is a tuple of members (name, priority, class) by rising unlike NAMES."""
    if not isinstance(thing, tuple) or not all([is_member(member) for member in thing]):
        return False
    return rises([member[0] for member in thing])


def is_member(thing):
    if not isinstance(thing, tuple) or len(thing) != 3:
        return False
    return is_word(thing[0]) and is_count(thing[1]) and is_count(thing[2])


def are_wires(thing, names):
    """Whether thing is a rising tuple of wires between members of these NAMES."""
    if not isinstance(thing, tuple) or not all([is_wire(wire, names) for wire in thing]):
        return False
    return rises(thing)


def is_wire(thing, names):
    if not isinstance(thing, tuple) or len(thing) != 2:
        return False
    one, other = thing
    return one in names and other in names and one < other


def is_state(net, thing):
    """Whether thing is a STATE of the NET."""
    members, wires = net
    if not isinstance(thing, tuple) or len(thing) != len(members):
        return False
    return all([is_state_row(net, member[0], row) for member, row in zip(members, thing)])


def is_state_row(net, name, thing):
    """Whether thing is the triple (name, best, heard) of the member of this NAME."""
    if not isinstance(thing, tuple) or len(thing) != 3 or thing[0] != name:
        return False
    best, heard = thing[1:]
    if best is None:
        return isinstance(heard, tuple) and len(heard) == 0
    return is_saying(net, best) and is_heard(other_ends(net[1], name), heard)


def is_saying(net, thing):
    """Whether thing is a SAYING (key, steps, who)."""
    if not isinstance(thing, tuple) or len(thing) != 3:
        return False
    key, steps, who = thing
    return is_key(key) and is_count(steps) and who in [member[0] for member in net[0]]


def is_key(thing):
    """Whether thing is of a KEY's kind, be it of a member or not."""
    if not isinstance(thing, tuple) or len(thing) != 3:
        return False
    return is_count(thing[0]) and is_count(thing[1]) and is_word(thing[2])


def is_heard(ends, thing):
    """Whether thing is what a member with these other ends of its wires HAS HEARD."""
    if not isinstance(thing, tuple) or not all([is_heard_row(ends, row) for row in thing]):
        return False
    return rises([row[0] for row in thing])


def is_heard_row(ends, thing):
    if not isinstance(thing, tuple) or len(thing) != 4:
        return False
    who, key, steps, age = thing
    return who in ends and is_key(key) and is_count(steps) and is_count(age)


def other_ends(wires, name):
    """The NAMES at the other ends of a member's wires."""
    return [other if one == name else one for one, other in wires if name in (one, other)]


def own_best(member):
    """The BEST of a member that has heard of none better: itself."""
    name, priority, rank = member
    return ((priority, rank, name), 0, name)


def first_state(net):
    """The FIRST STATE: all are up, nothing was HEARD."""
    return tuple([(member[0], own_best(member), ()) for member in net[0]])


def state_up(net, state, name, truth):
    """The STATE in which this member is up, or isn't."""
    if name not in [member[0] for member in net[0]]:
        raise NoHouse(name)
    return tuple([row_up(member, row, truth) if row[0] == name else row for member, row in zip(net[0], state)])


def row_up(member, row, truth):
    """A member's row of a STATE with the member up, or not: as it was where that doesn't turn."""
    if truth == (row[1] is not None):
        return row
    return (member[0], own_best(member) if truth else None, ())
