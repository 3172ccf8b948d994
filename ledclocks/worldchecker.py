"""A checker of WORLDS: it looks at each STEP once, and seeks nothing."""

from ledclocks.errors import NoPaper
from ledclocks.worlds import are_fractions, world_bars


def lets_world(history, thing):
    """How many EVENTS there are, where thing is a WORLD that FITS."""
    if not are_fractions(thing):
        raise NoPaper("shape", -1)
    if len(thing) != len(history[1]):
        raise NoPaper("many", -1)
    barring = world_bars(history, thing)
    if barring is not None:
        raise NoPaper("step", barring)
    return len(thing)
