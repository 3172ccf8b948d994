"""PIECES of a NET by members and wires that are up, and the TREE PAPER of who leads each."""

from ledclocks.nets import other_ends, own_best


def near_names(net, up, wires):
    """A dict with, for each of up, the NAMES at the other ends of its wires that are in up too."""
    carrying = net[1] if wires is None else wires
    near = {}
    for name in up:
        near[name] = [end for end in other_ends(carrying, name) if end in up]
    return near


def own_keys(net):
    """A dict with the KEY of each member."""
    return {member[0]: own_best(member)[0] for member in net[0]}


def pieces_of(net, up, wires):
    """The PIECES, a tuple of rising tuples by their least NAMES."""
    near = near_names(net, up, wires)
    placed = {}
    pieces = []
    for name in up:
        if name not in placed:
            piece = tuple(sorted(list(steps_from(near, name))))
            pieces.append(piece)
            placed.update({each: True for each in piece})
    return tuple(pieces)


def steps_from(near, start):
    """A dict with the fewest steps to each NAME to which one comes from start."""
    steps = {start: 0}
    waiting = [start]
    while len(waiting) > 0:
        at = waiting.pop(0)
        for end in near[at]:
            if end not in steps:
                steps[end] = steps[at] + 1
                waiting.append(end)
    return steps


def tree_paper(net, up, wires):
    """The TREE PAPER, a tuple with (name, key, steps, who) for each of up."""
    keys = own_keys(net)
    near = near_names(net, up, wires)
    rows = []
    for piece in pieces_of(net, up, wires):
        key = min([keys[name] for name in piece])
        steps = steps_from(near, key[2])
        rows.extend([(name, key, steps[name], nearer(near, steps, name)) for name in piece])
    return tuple(sorted(rows))


def nearer(near, steps, name):
    """The least NAME next to this one that has a step fewer, the leader itself with 0."""
    if steps[name] == 0:
        return name
    return min([end for end in near[name] if steps[end] == steps[name] - 1])
