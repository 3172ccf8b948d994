"""GHOSTS: leaders that are gone, but told of; and after how many ROUNDS all is settled."""

from ledclocks.net_trees import own_keys, pieces_of, tree_paper


def ghosts_of(net, state, wires=None):
    """The GHOSTS of a STATE by wires, a rising tuple of pairs (name, key)."""
    bests = {name: best for name, best, heard in state if best is not None}
    keys = own_keys(net)
    ghosts = []
    for piece in pieces_of(net, tuple(sorted(list(bests))), wires):
        own = [keys[name] for name in piece]
        ghosts.extend([(name, bests[name][0]) for name in piece if bests[name][0] not in own])
    return tuple(sorted(ghosts))


def rounds_to_halt(net, up, wires, *, most=4, age=1):
    """HALT: behind so many ROUNDS no more ROUND turns the BEST of a member that is near enough."""
    steps = [row[2] for row in tree_paper(net, up, wires)]
    return most + age + 1 + max([each for each in steps if each <= most] + [0])
