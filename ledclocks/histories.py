"""HISTORIES by kind, and EVENT by EVENT: what bars a next one."""

from ledclocks.errors import NoEvent
from ledclocks.houses import is_field
from ledclocks.moves import drift_of
from ledclocks.numbers import is_number, is_word
from ledclocks.ratios import is_below, is_fraction


def is_history(thing):
    """Whether thing is a HISTORY (field, events)."""
    if not isinstance(thing, tuple) or len(thing) != 2:
        return False
    field, events = thing
    if not is_field(field) or not isinstance(events, tuple):
        return False
    ahead = []
    for event in events:
        if next_lacks(field, ahead, event) is not None:
            return False
        ahead.append(event)
    return True


def event_lacks(history, thing):
    """The word that bars thing as a next EVENT, None where nothing does."""
    return next_lacks(history[0], history[1], thing)


def put_on(history, thing):
    """The HISTORY with thing put on as its last EVENT."""
    field, events = history
    word = event_lacks(history, thing)
    if word is not None:
        raise NoEvent(word, len(events))
    return (field, events + (thing,))


def next_lacks(field, events, thing):
    """The first word that bars thing behind these events, None where none does."""
    if not is_event_shape(thing):
        return "shape"
    name, stamp, deed = thing
    if drift_of(field, name) is None:
        return "house"
    if falls_behind(events, name, stamp):
        return "stamp"
    if deed[0] == "send" and not goes_from(field, name, deed[1]):
        return "link"
    if deed[0] == "hear" and not comes_to(field, events, name, deed[1]):
        return "send"
    return None


def is_event_shape(thing):
    """Whether thing is a tuple of a WORD, a FRACTION and a deed, whatever they name."""
    if not isinstance(thing, tuple) or len(thing) != 3:
        return False
    return is_word(thing[0]) and is_fraction(thing[1]) and is_deed_shape(thing[2])


def is_deed_shape(thing):
    if not isinstance(thing, tuple):
        return False
    if thing == ("mark",):
        return True
    return len(thing) == 2 and thing[0] in ("send", "hear") and is_number(thing[1])


def falls_behind(events, name, stamp):
    """Whether the last EVENT of the house of this name has a greater stamp."""
    for event in events[::-1]:
        if event[0] == name:
            return is_below(stamp, event[1])
    return False


def goes_from(field, name, number):
    """Whether there is a LINK of this number, from the house of this name."""
    links = field[1]
    return 0 <= number < len(links) and links[number][0] == name


def comes_to(field, events, name, number):
    """Whether there is an EVENT of this number, a send over a LINK to the house of this name."""
    if not 0 <= number < len(events):
        return False
    sent = events[number][2]
    return sent[0] == "send" and field[1][sent[1]][1] == name
