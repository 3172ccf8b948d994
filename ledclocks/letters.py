"""The EVENTS of a HOUSE, and the LETTERS of a HISTORY, heard and LOST."""

from ledclocks.errors import NoHouse
from ledclocks.moves import drift_of


def house_events(history, name):
    """The numbers of the EVENTS of the HOUSE of this name, a rising tuple."""
    field, events = history
    if drift_of(field, name) is None:
        raise NoHouse(name)
    return tuple([number for number, event in enumerate(events) if event[0] == name])


def heard_letters(history):
    """The pairs (send, hear) of the LETTERS that were heard, a rising tuple."""
    return tuple(sorted([(event[2][1], hear) for hear, event in enumerate(history[1]) if event[2][0] == "hear"]))


def lost_letters(history):
    """The numbers of the sends that nobody hears, a rising tuple."""
    heard = [send for send, hear in heard_letters(history)]
    return tuple([send for send, event in enumerate(history[1]) if event[2][0] == "send" and send not in heard])
