"""A WORLD that FITS, or a RING of STEPS that bars all WORLDS.

All times begin alike, and go down by STEPS until nothing turns: then they FIT. As many rounds as EVENTS are enough
for that, unless a RING of a SUM below 0 draws them down for ever; the STEPS by which times came last then go round.
"""

from ledclocks.ratios import ratio
from ledclocks.stepping import history_steps, whole_steps


def ring_of(history):
    """A RING that bars all WORLDS, any; None where there is none."""
    kind, told = world_or_ring(history)
    return told if kind == "ring" else None


def world_or_ring(history):
    """("world", WORLD), any that FITS, or ("ring", RING), any that bars all WORLDS."""
    steps = history_steps(history)
    # The times are parted by the unit again at the end.
    unit, whole = whole_steps(steps)
    moments = [0 for event in history[1]]
    came_by = [None for event in history[1]]
    turned = go_down(whole, moments, came_by)
    if turned is None:
        return ("world", tuple([ratio(moment, unit) for moment in moments]))
    return ("ring", ring_behind(steps, came_by, turned))


def go_down(whole, moments, came_by):
    """Goes over all STEPS till nothing turns: None, or an EVENT that turned in the last round where a RING is."""
    turned = go_over(whole, moments, came_by)
    rounds = 1
    while turned is not None and rounds <= len(moments):
        turned = go_over(whole, moments, came_by)
        rounds += 1
    return turned


def go_over(whole, moments, came_by):
    """Takes times down by each STEP once; told is the last EVENT whose time turned, None where none did.

    A time that is None is not known yet: it tells nothing, and any other one is less.
    """
    turned = None
    for number, step in enumerate(whole):
        x, y, w = step
        if moments[x] is not None and (moments[y] is None or moments[x] + w < moments[y]):
            moments[y] = moments[x] + w
            came_by[y] = number
            turned = y
    return turned


def ring_behind(steps, came_by, event):
    """The RING to which one comes by going back from an EVENT that turned in the last round."""
    at = event
    # As many STEPS back as there are EVENTS lead into the RING, wherever they began.
    for back in came_by:
        at = steps[came_by[at]][0]
    ring = [came_by[at]]
    while steps[ring[-1]][0] != at:
        ring.append(came_by[steps[ring[-1]][0]])
    return tuple(ring[::-1])
