"""A checker of WAYS: it goes along the STEPS that one names, and seeks nothing."""

from ledclocks.errors import NoPaper
from ledclocks.hearing import bar_number
from ledclocks.numbers import are_numbers
from ledclocks.ratios import NOUGHT, added
from ledclocks.stepping import history_steps


def lets_way(history, x, y, thing):
    """The SUM of a thing that is a WAY from x to y."""
    bar_number(history, x)
    bar_number(history, y)
    if not are_numbers(thing):
        raise NoPaper("shape", -1)
    steps = history_steps(history)
    at = x
    for k, number in enumerate(thing):
        if not 0 <= number < len(steps):
            raise NoPaper("step", k)
        if steps[number][0] != at:
            raise NoPaper("from", k)
        at = steps[number][1]
    if at != y:
        raise NoPaper("to", -1)
    return sum_along(steps, thing)


def sum_along(steps, numbers):
    """The SUM of the STEPS of these numbers."""
    total = NOUGHT
    for number in numbers:
        total = added(total, steps[number][2])
    return total
