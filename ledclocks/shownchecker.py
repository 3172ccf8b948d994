"""A checker of what EVENTS SHOW: it looks at each EVENT and the last one ahead at its house, and seeks nothing."""

from ledclocks.errors import NoPaper
from ledclocks.ratios import is_below, less
from ledclocks.showing import SLEW, shown_bounds
from ledclocks.worlds import are_fractions


def lets_shown(history, thing, *, slew=SLEW):
    """True, where thing is what EVENTS may SHOW by slew."""
    if not are_fractions(thing):
        raise NoPaper("shape", -1)
    if len(thing) != len(history[1]):
        raise NoPaper("many", len(thing))
    last_at = {}
    for k, event in enumerate(history[1]):
        name, stamp, deed = event
        last = last_at.get(name)
        if last is not None:
            bar_turn(thing, k, shown_bounds(thing[last], less(stamp, history[1][last][1]), slew))
        last_at[name] = k
    return True


def bar_turn(thing, k, bounds):
    """Refuses a clock that goes on too slowly, or too fast."""
    slowest, fastest = bounds
    if is_below(thing[k], slowest):
        raise NoPaper("slow", k)
    if is_below(fastest, thing[k]):
        raise NoPaper("fast", k)
