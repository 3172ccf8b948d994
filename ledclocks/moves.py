"""What drifts and LINKS tell of the true while from one EVENT to another one.

A move into an EVENT is a pair (x, bounds): x the number of an EVENT ahead,
bounds a pair (least, most) of how much the EVENT's time is above that of x,
most None where nothing bounds it. KEPT pairs and STEPS are both read off
moves, so that they can't tell unlike things of the same EVENTS.
"""

from ledclocks.ratios import less, parted


def drift_of(field, name):
    """The pair (slow, fast) of the HOUSE of this name, None where there is none."""
    for house, slow, fast in field[0]:
        if house == name:
            return (slow, fast)
    return None


def moves_into(field, events, last, event):
    """The moves into an EVENT behind events, at whose house last is the last one, or None."""
    name, stamp, deed = event
    moves = []
    if last is not None:
        slow, fast = drift_of(field, name)
        gone = less(stamp, events[last][1])
        moves.append((last, (parted(gone, fast), parted(gone, slow))))
    if deed[0] == "hear":
        sent = events[deed[1]][2]
        moves.append((deed[1], field[1][sent[1]][2:]))
    return moves


def history_moves(history):
    """A list with the moves into each EVENT of a HISTORY."""
    field, events = history
    last_at = {}
    rows = []
    for number, event in enumerate(events):
        rows.append(moves_into(field, events, last_at.get(event[0]), event))
        last_at[event[0]] = number
    return rows
