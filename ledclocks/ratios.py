"""FRACTIONS: tuples (a, b) in lowest terms, b above 0, and their sums."""

from ledclocks.numbers import is_number

NOUGHT = (0, 1)
ONE = (1, 1)


def is_fraction(thing):
    """Whether thing is a FRACTION."""
    if not isinstance(thing, tuple) or len(thing) != 2:
        return False
    a, b = thing
    return is_number(a) and is_number(b) and b > 0 and common_divisor(a, b) == 1


def common_divisor(a, b):
    """The greatest NUMBER that divides both; b is above 0."""
    while b != 0:
        a, b = b, a % b
    return abs(a)


def ratio(a, b):
    """The FRACTION that is a parted by b, which isn't 0."""
    if b < 0:
        a, b = -a, -b
    divisor = common_divisor(a, b)
    return (a // divisor, b // divisor)


def added(one, other):
    """The FRACTION one and other, added."""
    return ratio(one[0] * other[1] + other[0] * one[1], one[1] * other[1])


def added_told(one, other):
    """One and other, FRACTIONS or None, added; None where either is."""
    return None if one is None or other is None else added(one, other)


def less(one, other):
    """The FRACTION one with other taken away."""
    return ratio(one[0] * other[1] - other[0] * one[1], one[1] * other[1])


def times(one, other):
    """The FRACTION one times other."""
    return ratio(one[0] * other[0], one[1] * other[1])


def parted(one, other):
    """The FRACTION one parted by other, which isn't 0."""
    return ratio(one[0] * other[1], one[1] * other[0])


def is_below(one, other):
    """Whether one is less than other."""
    return one[0] * other[1] < other[0] * one[1]


def least_of(fractions):
    """The least of a list of FRACTIONS, None of none."""
    least = None
    for fraction in fractions:
        if least is None or is_below(fraction, least):
            least = fraction
    return least


def greatest_of(fractions):
    """The greatest of a list of FRACTIONS, None of none."""
    greatest = None
    for fraction in fractions:
        if greatest is None or is_below(greatest, fraction):
            greatest = fraction
    return greatest


def common_unit(fractions):
    """A NUMBER above 0 that makes each of a list of FRACTIONS whole, times it; the least."""
    unit = 1
    for fraction in fractions:
        unit = unit // common_divisor(unit, fraction[1]) * fraction[1]
    return unit
