"""Shown clocks: what each EVENT SHOWS, going on from the last one at its house, and how FAR that can be wrong."""

from ledclocks.keptpairs import is_void, kept_pairs
from ledclocks.ratios import ONE, added, greatest_of, least_of, less, parted, times

SLEW = (1, 2)
TWO = (2, 1)


def shown_times(history, *, slew=SLEW):
    """What the EVENTS of a HISTORY SHOW by slew, a tuple."""
    shown = []
    last_at = {}
    for number, pair in enumerate(kept_pairs(history)):
        name, stamp, deed = history[1][number]
        last = last_at.get(name)
        if last is None:
            shown.append(first_shown(stamp, aim_of(pair)))
        else:
            gone = less(stamp, history[1][last][1])
            shown.append(next_shown(shown[last], gone, aim_of(pair), slew))
        last_at[name] = number
    return tuple(shown)


def aim_of(pair):
    """The AIM, the middle of a KEPT pair; None where an end is None, or it is VOID."""
    low, high = pair
    if low is None or high is None or is_void(pair):
        return None
    return parted(added(low, high), TWO)


def first_shown(stamp, aim):
    """What the first EVENT of a HOUSE SHOWS."""
    return stamp if aim is None else aim


def next_shown(elder, gone, aim, slew):
    """What an EVENT SHOWS behind what the last one at its house did, by what its clock has gone on since."""
    if aim is None:
        return added(elder, gone)
    slowest, fastest = shown_bounds(elder, gone, slew)
    return least_of([greatest_of([aim, slowest]), fastest])


def shown_bounds(elder, gone, slew):
    """The least and the greatest that may be shown next."""
    return (added(elder, times(less(ONE, slew), gone)), added(elder, times(added(ONE, slew), gone)))


def far_off(history, shown):
    """How FAR each of what is shown can be from the SOURCE TIME, a tuple; None where an end of its KEPT pair is."""
    return tuple([far_from(pair, each) for pair, each in zip(kept_pairs(history), shown)])


def far_from(pair, each):
    """How FAR one FRACTION can be from what lies in a KEPT pair."""
    low, high = pair
    if low is None or high is None:
        return None
    return greatest_of([less(each, low), less(high, each)])
