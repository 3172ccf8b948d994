"""RELAYS: rows of EVENTS in which each hears the one ahead, or is a later one of its house."""

from ledclocks.moves import history_moves, moves_into
from ledclocks.ratios import NOUGHT, added, added_told


def bounds_between(history, x, y):
    """The pair (least, most) by which y, next behind x in a RELAY, is later; None where it can't stand there."""
    field, events = history
    own = x if x < y and events[x][0] == events[y][0] else None
    found = [bounds for start, bounds in moves_into(field, events, own, events[y]) if start == x]
    return found[0] if len(found) > 0 else None


def relay_bounds(history, relay):
    """The BOUNDS (least, most) of a RELAY, most None where nothing bounds it."""
    least, most = NOUGHT, NOUGHT
    for x, y in zip(relay, relay[1:]):
        bounds = bounds_between(history, x, y)
        least = added(least, bounds[0])
        most = added_told(most, bounds[1])
    return (least, most)


def relay_from(history, x, y):
    """A RELAY from x to y, any; None where y HAS not HEARD x."""
    came_from = {x: None}
    for number, moves in enumerate(history_moves(history)):
        for start, bounds in moves:
            if start in came_from:
                came_from[number] = start
    if y not in came_from:
        return None
    back = [y]
    while back[-1] != x:
        back.append(came_from[back[-1]])
    return tuple(back[::-1])
