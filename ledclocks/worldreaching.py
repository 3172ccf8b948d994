"""WORLDS that FIT and reach the ends of a STRETCH, or go as far as told where it has none."""

from ledclocks.hearing import bar_number
from ledclocks.ratios import NOUGHT, added, greatest_of, less
from ledclocks.reaching import reach_plain
from ledclocks.ringfinding import world_or_ring
from ledclocks.stepping import history_steps

FAR = (1000, 1)


def high_world(history, x, y, *, far=FAR):
    """A WORLD, any, in which y's time is above x's by REACH(x, y), by far or more where that is None."""
    bar_number(history, x)
    bar_number(history, y)
    return world_apart(history, x, y, far)


def low_world(history, x, y, *, far=FAR):
    """A WORLD, any, in which y's time is above x's by the STRETCH's low, below by far or more where that is None."""
    bar_number(history, x)
    bar_number(history, y)
    # What y is above x at least, x is above y at most, times -1.
    return world_apart(history, y, x, far)


def world_apart(history, x, y, far):
    """A WORLD that FITS in which y is as much above x as can be, or by far or more.

    The least SUMS from x are times that FIT. Whatever no WAY comes to from x may be as late as one likes, all of it
    together: its times in some WORLD are put off by so much that no STEP from there bars.
    """
    sums = reach_plain(history, x)
    kind, world = world_or_ring(history)
    delay = delay_needed(history, sums, world, y, far)
    return tuple([added(moment, delay) if least is None else least for moment, least in zip(world, sums)])


def delay_needed(history, sums, world, y, far):
    """How much later than in this WORLD all that has no SUM must be."""
    delays = [NOUGHT]
    if sums[y] is None:
        delays.append(less(far, world[y]))
    for start, end, w in history_steps(history):
        if sums[start] is None and sums[end] is not None:
            delays.append(less(less(sums[end], w), world[start]))
    return greatest_of(delays)
