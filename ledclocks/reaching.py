"""REACH: the least SUM of all WAYS from one EVENT to another one, by two runners, and a WAY of this SUM."""

from ledclocks.errors import NoWorld
from ledclocks.hearing import bar_number
from ledclocks.ratios import ratio
from ledclocks.ringfinding import go_over, ring_of
from ledclocks.stepping import history_steps, whole_steps


def bar_ring(history):
    """Refuses a HISTORY that has a RING of a SUM below 0."""
    ring = ring_of(history)
    if ring is not None:
        raise NoWorld(ring)


def reach_plain(history, x):
    """REACH from x to each EVENT, a tuple, by going over all STEPS till nothing turns."""
    bar_number(history, x)
    bar_ring(history)
    unit, whole = whole_steps(history_steps(history))
    sums, came_by = run_plain(whole, len(history[1]), x)
    return sums_parted(sums, unit)


def reach_clever(history, x):
    """REACH from x to each EVENT, a tuple, by going on from x alone by what has turned."""
    bar_number(history, x)
    bar_ring(history)
    unit, whole = whole_steps(history_steps(history))
    return sums_parted(run_clever(whole, len(history[1]), x), unit)


def reach(history, x, y):
    """REACH(x, y), None where there is no WAY."""
    bar_number(history, x)
    bar_number(history, y)
    return reach_clever(history, x)[y]


def least_way(history, x, y):
    """A WAY from x to y whose SUM is REACH(x, y), any; None where there is none."""
    bar_number(history, x)
    bar_number(history, y)
    bar_ring(history)
    steps = history_steps(history)
    unit, whole = whole_steps(steps)
    sums, came_by = run_plain(whole, len(history[1]), x)
    if sums[y] is None:
        return None
    back = []
    at = y
    # No RING is below 0, so the STEPS by which sums came last lead back to x, at which none came.
    while at != x:
        back.append(came_by[at])
        at = steps[came_by[at]][0]
    return tuple(back[::-1])


def run_plain(whole, many, x):
    """The least SUMS from x in whole numbers, None where no WAY comes, and the STEPS by which they came."""
    sums = only_at(many, x)
    came_by = [None for number in range(many)]
    while go_over(whole, sums, came_by) is not None:
        pass
    return (sums, came_by)


def run_clever(whole, many, x):
    """The least SUMS from x in whole numbers, None where no WAY comes."""
    sums = only_at(many, x)
    leaving = steps_leaving(whole, many)
    waiting = [x]
    while len(waiting) > 0:
        at = waiting.pop(0)
        for y, w in leaving[at]:
            if sums[y] is None or sums[at] + w < sums[y]:
                sums[y] = sums[at] + w
                if y not in waiting:
                    waiting.append(y)
    return sums


def only_at(many, x):
    """SUMS of which only that to x itself is known."""
    return [0 if number == x else None for number in range(many)]


def steps_leaving(whole, many):
    """A list with, for each EVENT, the pairs (y, w) of the STEPS that go from it."""
    leaving = [[] for number in range(many)]
    for x, y, w in whole:
        leaving[x].append((y, w))
    return leaving


def sums_parted(sums, unit):
    """Whole SUMS as the FRACTIONS that they are, None left as it is."""
    return tuple([None if each is None else ratio(each, unit) for each in sums])
