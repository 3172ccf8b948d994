"""A checker of COVER PAPERS: it looks at ends and SPANS that a paper names, and seeks nothing."""

from ledclocks.errors import NoPaper
from ledclocks.majorities import ends_held, is_in, many_open
from ledclocks.numbers import are_numbers
from ledclocks.ratios import is_below, is_fraction


def lets_cover(spans, thing, *, liars=0):
    """The pair (low, high) of a COVER PAPER of SPANS by liars."""
    if not is_cover_shape(thing):
        raise NoPaper("shape", -1)
    need = len(spans) - liars
    for side in (0, 1):
        bar_numbers(spans, thing[2 + side], side)
        bar_outside(spans, thing[side], thing[2 + side], side)
        if thing[side] is not None and len(thing[2 + side]) < need:
            raise NoPaper("few", side)
    for side in (0, 1):
        if is_short(spans, thing[side], need, side):
            raise NoPaper("beyond", side)
    return thing[:2]


def is_cover_shape(thing):
    """Whether thing is a tuple of two FRACTIONS or None, and two tuples of NUMBERS."""
    if not isinstance(thing, tuple) or len(thing) != 4:
        return False
    low, high, some, others = thing
    return is_end(low) and is_end(high) and are_numbers(some) and are_numbers(others)


def is_end(thing):
    return thing is None or is_fraction(thing)


def bar_numbers(spans, cover, side):
    """Refuses what is no rising row of numbers of SPANS."""
    last = -1
    for k, number in enumerate(cover):
        if not last < number < len(spans):
            raise NoPaper("number", (side, k))
        last = number


def bar_outside(spans, end, cover, side):
    """Refuses a SPAN in the cover that the end isn't IN."""
    for k, number in enumerate(cover):
        if end is None or not is_in(spans[number], end):
            raise NoPaper("in", (side, k))


def is_short(spans, end, need, side):
    """Whether what is HELD goes beyond the end, or has one where the end is None, or nothing is HELD at all."""
    endless = many_open(spans, side) >= need
    if end is None:
        return not endless
    return endless or any([is_past(held, end, side) for held in ends_held(spans, need, side)])


def is_past(held, end, side):
    """Whether a FRACTION lies beyond the end: below a low, above a high."""
    return is_below(held, end) if side == 0 else is_below(end, held)
