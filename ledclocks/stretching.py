"""STRETCHES: how much one EVENT's time is above another one's, at least and at most."""

from ledclocks.ratios import NOUGHT, less
from ledclocks.reaching import reach


def stretch_of(history, x, y):
    """The STRETCH (low, high) of y from x, None of an end that nothing bounds."""
    high = reach(history, x, y)
    back = reach(history, y, x)
    low = None if back is None else less(NOUGHT, back)
    return (low, high)
