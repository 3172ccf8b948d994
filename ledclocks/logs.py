"""LOGS, by kind alone."""

from ledclocks.histories import is_event_shape
from ledclocks.houses import is_field
from ledclocks.nets import is_net
from ledclocks.numbers import is_count, is_word


def is_log(thing):
    """Whether thing is a LOG: a first row, and rows of deeds, be they refused or not."""
    if not isinstance(thing, tuple) or len(thing) == 0:
        return False
    return is_first_row(thing[0]) and all([is_deed_row(row) for row in thing[1:]])


def is_first_row(thing):
    """Whether thing is a row ("court", field, members, wires, most, age)."""
    if not isinstance(thing, tuple) or len(thing) != 6:
        return False
    word, field, members, wires, most, age = thing
    return word == "court" and is_field(field) and is_net((members, wires)) and is_count(most) and is_count(age)


def is_deed_row(thing):
    """Whether thing is the row of a deed."""
    if not isinstance(thing, tuple) or len(thing) == 0:
        return False
    if thing[0] == "note":
        return is_event_shape(thing[1:]) and all([number >= 0 for number in thing[3][1:]])
    if thing[0] == "up":
        return len(thing) == 3 and is_word(thing[1]) and isinstance(thing[2], bool)
    if thing[0] == "wire":
        return len(thing) == 4 and is_word(thing[1]) and is_word(thing[2]) and isinstance(thing[3], bool)
    return thing == ("round",)
