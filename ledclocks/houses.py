"""HOUSES, LINKS and FIELDS, by kind alone."""

from ledclocks.numbers import is_word, rises
from ledclocks.ratios import NOUGHT, ONE, is_below, is_fraction


def is_house(thing):
    """Whether thing is a HOUSE (name, slow, fast)."""
    if not isinstance(thing, tuple) or len(thing) != 3:
        return False
    name, slow, fast = thing
    if not is_word(name) or not is_fraction(slow) or not is_fraction(fast):
        return False
    return is_below(NOUGHT, slow) and not is_below(ONE, slow) and not is_below(fast, ONE)


def is_link(thing):
    """Whether thing is a LINK (from, to, least, most)."""
    if not isinstance(thing, tuple) or len(thing) != 4:
        return False
    start, end, least, most = thing
    if not is_word(start) or not is_word(end) or start == end:
        return False
    if not is_fraction(least) or is_below(least, NOUGHT):
        return False
    return most is None or is_fraction(most) and not is_below(most, least)


def is_field(thing):
    """Whether thing is a FIELD (houses, links, source)."""
    if not isinstance(thing, tuple) or len(thing) != 3:
        return False
    houses, links, source = thing
    if not are_houses(houses) or not are_links(links, houses):
        return False
    return (source, ONE, ONE) in houses


def are_houses(thing):
    """Whether thing is a tuple of HOUSES by rising unlike names."""
    if not isinstance(thing, tuple) or not all([is_house(house) for house in thing]):
        return False
    return rises([house[0] for house in thing])


def are_links(thing, houses):
    """Whether thing is a tuple of LINKS between these HOUSES."""
    if not isinstance(thing, tuple) or not all([is_link(link) for link in thing]):
        return False
    names = [house[0] for house in houses]
    return all([link[0] in names and link[1] in names for link in thing])
