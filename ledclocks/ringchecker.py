"""A checker of RINGS that bar all WORLDS: it goes once along the STEPS that one names, and seeks nothing."""

from ledclocks.errors import NoPaper
from ledclocks.numbers import are_numbers
from ledclocks.ratios import NOUGHT, is_below
from ledclocks.stepping import history_steps
from ledclocks.waychecker import sum_along


def lets_ring(history, thing):
    """The SUM of a thing that is a RING of a SUM below 0."""
    if not are_numbers(thing) or len(thing) == 0:
        raise NoPaper("shape", -1)
    steps = history_steps(history)
    for k, number in enumerate(thing):
        if not 0 <= number < len(steps):
            raise NoPaper("step", k)
    at = steps[thing[-1]][1]
    for k, number in enumerate(thing):
        if steps[number][0] != at:
            raise NoPaper("from", k)
        at = steps[number][1]
    total = sum_along(steps, thing)
    if not is_below(total, NOUGHT):
        raise NoPaper("sum", -1)
    return total
