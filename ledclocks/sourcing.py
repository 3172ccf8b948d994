"""The SOURCE TIME at an EVENT by what it HAS HEARD alone."""

from ledclocks.hearing import part_heard
from ledclocks.ratios import added_told
from ledclocks.reaching import bar_ring
from ledclocks.stretching import stretch_of


def by_heard(history, event):
    """The pair (low, high) of the SOURCE TIME at an EVENT, None of an end that nothing bounds."""
    part = part_heard(history, event)
    # A RING bars also where nothing of the SOURCE was heard, so it is looked for first.
    bar_ring(part)
    field, events = part
    marks = [number for number, each in enumerate(events) if each[0] == field[2]]
    if len(marks) == 0:
        return (None, None)
    low, high = stretch_of(part, marks[0], len(events) - 1)
    stamp = events[marks[0]][1]
    return (added_told(stamp, low), added_told(stamp, high))
