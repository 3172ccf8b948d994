"""A checker of RELAYS: it goes along the EVENTS that one names, and seeks nothing."""

from ledclocks.errors import NoPaper
from ledclocks.numbers import are_numbers
from ledclocks.relays import bounds_between, relay_bounds


def lets_relay(history, thing):
    """The BOUNDS of a thing that is a RELAY."""
    if not are_numbers(thing) or len(thing) == 0:
        raise NoPaper("shape", -1)
    for k, number in enumerate(thing):
        if not 0 <= number < len(history[1]):
            raise NoPaper("event", k)
    for k in range(1, len(thing)):
        if bounds_between(history, thing[k - 1], thing[k]) is None:
            raise NoPaper("goes", k)
    return relay_bounds(history, thing)
