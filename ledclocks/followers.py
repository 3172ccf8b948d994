"""FOLLOWS: who follows whom, and a RING among them."""


def follows_of(state):
    """The pairs (name, who) of the members of a STATE that are up and follow another one."""
    return tuple([(name, best[2]) for name, best, heard in state if best is not None and best[2] != name])


def leaders_of(state):
    """The NAMES of the members of a STATE that are up and have themselves as their BEST."""
    return tuple([name for name, best, heard in state if best is not None and best[2] == name])


def follow_ring(pairs):
    """The RING of FOLLOWS with the least NAME that is in one, begun with it; None of none."""
    leads = {name: who for name, who in pairs}
    for name, who in pairs:
        ring = ring_from(leads, name)
        if ring is not None:
            return ring
    return None


def ring_from(leads, name):
    """The RING through a NAME, begun with it; None where it is in none."""
    ring = [name]
    # A NAME may lead into a RING that it is not in, so the walk must end without coming back.
    while len(ring) <= len(leads):
        who = leads.get(ring[-1])
        if who is None:
            return None
        if who == name:
            return tuple(ring)
        ring.append(who)
    return None
