"""WORLDS: a true time for each EVENT; what bars one, and the SOURCE TIMES in one that FITS."""

from ledclocks.letters import house_events
from ledclocks.ratios import added, is_below, is_fraction, less
from ledclocks.stepping import history_steps


def are_fractions(thing):
    """Whether thing is a tuple of FRACTIONS."""
    return isinstance(thing, tuple) and all([is_fraction(each) for each in thing])


def is_world(history, thing):
    """Whether thing is a WORLD of the HISTORY, be it one that FITS or not."""
    return are_fractions(thing) and len(thing) == len(history[1])


def world_bars(history, world):
    """The number of the first STEP that bars the WORLD, None where it FITS."""
    for number, step in enumerate(history_steps(history)):
        x, y, w = step
        if is_below(added(world[x], w), world[y]):
            return number
    return None


def source_times(history, world):
    """The SOURCE TIMES at all EVENTS, a tuple, in a WORLD that FITS; each None where none is of the SOURCE."""
    field, events = history
    marks = house_events(history, field[2])
    if len(marks) == 0:
        return tuple([None for event in events])
    # The clock of the SOURCE doesn't drift, so each of its EVENTS tells the same.
    ahead = less(events[marks[0]][1], world[marks[0]])
    return tuple([added(moment, ahead) for moment in world])
