"""SPANS of the time by several who tell it, some of whom lie: what a majority holds."""

from ledclocks.errors import Lied
from ledclocks.ratios import greatest_of, is_below, least_of


def is_in(span, point):
    """Whether a FRACTION is IN a SPAN."""
    low, high = span
    if low is not None and is_below(point, low):
        return False
    return high is None or not is_below(high, point)


def count_in(spans, point):
    """In how many SPANS the FRACTION is."""
    return len(numbers_in(spans, point))


def numbers_in(spans, point):
    """The numbers of the SPANS that the FRACTION is IN, rising."""
    return tuple([number for number, span in enumerate(spans) if is_in(span, point)])


def by_majority(spans, *, liars=0):
    """The pair of the least and the greatest FRACTION that is HELD, None where they go on without end."""
    most = most_in(spans)
    need = len(spans) - liars
    if most < need:
        raise Lied(len(spans) - most)
    low = None if many_open(spans, 0) >= need else least_of(ends_held(spans, need, 0))
    high = None if many_open(spans, 1) >= need else greatest_of(ends_held(spans, need, 1))
    return (low, high)


def many_open(spans, side):
    """In how many SPANS all FRACTIONS are that lie far enough to this side."""
    return len([span for span in spans if span[side] is None])


def ends_of(spans, side):
    """The ends of this side that are no None."""
    return [span[side] for span in spans if span[side] is not None]


def ends_held(spans, need, side):
    """The ends of this side that are HELD: where what is HELD has an end, it is one of them."""
    return [end for end in ends_of(spans, side) if count_in(spans, end) >= need]


def most_in(spans):
    """In how many SPANS a FRACTION can be, at most: rising, it comes into one only at a low."""
    return max([many_open(spans, 0)] + [count_in(spans, low) for low in ends_of(spans, 0)])


def cover_paper(spans, *, liars=0):
    """The COVER PAPER (low, high, some, others) of what by_majority tells."""
    low, high = by_majority(spans, liars=liars)
    return (low, high, cover_of(spans, low), cover_of(spans, high))


def cover_of(spans, end):
    """All SPANS that an end is IN, () of None."""
    return () if end is None else numbers_in(spans, end)
