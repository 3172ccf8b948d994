"""ROUNDS: members say their BESTS over wires, and choose anew by what they HAVE HEARD."""

from ledclocks.nets import other_ends, own_best


def state_round(net, state, wires=None, *, most=4, age=1):
    """The STATE behind one ROUND, by the wires that are up, None of all."""
    carrying = net[1] if wires is None else wires
    said = {name: best for name, best, heard in state if best is not None}
    rows = []
    for member, row in zip(net[0], state):
        ends = [end for end in other_ends(carrying, row[0]) if end in said]
        fresh = [(end, said[end][0], said[end][1], 0) for end in ends]
        rows.append(row if row[1] is None else row_behind(member, fresh, row[2], most, age))
    return tuple(rows)


def row_behind(member, fresh, heard, most, age):
    """The row of a member that is up, behind a ROUND in which it heard what is fresh."""
    ends = [row[0] for row in fresh]
    kept = [(who, key, steps, old + 1) for who, key, steps, old in heard if who not in ends and old < age]
    heard_now = tuple(sorted(fresh + kept))
    offers = [(key, steps + 1, who) for who, key, steps, old in heard_now if steps < most]
    return (member[0], min([own_best(member)] + offers), heard_now)


def state_behind(net, state, many, wires=None, *, most=4, age=1):
    """The STATE behind so many ROUNDS, one after the other."""
    behind = state
    for number in range(many):
        behind = state_round(net, behind, wires, most=most, age=age)
    return behind
