"""What an EVENT HAS HEARD, and the PART of a HISTORY that this is."""

from ledclocks.errors import NoNumber
from ledclocks.moves import history_moves


def bar_number(history, number):
    """Refuses a NUMBER that is no number of an EVENT of the HISTORY."""
    if not 0 <= number < len(history[1]):
        raise NoNumber(number)


def has_heard(history, number):
    """The numbers of the EVENTS that an EVENT HAS HEARD, a rising tuple."""
    bar_number(history, number)
    rows = history_moves(history)
    heard = set()
    heard.add(number)
    # All that an EVENT leads to is ahead of it, so one walk down meets each of them in time.
    for at in range(number, -1, -1):
        if at in heard:
            for x, bounds in rows[at]:
                heard.add(x)
    return tuple(sorted(heard))


def part_heard(history, number):
    """The PART of a HISTORY that an EVENT HAS HEARD, a HISTORY of the same FIELD."""
    field, events = history
    numbers = has_heard(history, number)
    places = {old: new for new, old in enumerate(numbers)}
    return (field, tuple([event_put(events[old], places) for old in numbers]))


def event_put(event, places):
    """An EVENT with the number in its hear, if it hears, put right."""
    house, stamp, deed = event
    if deed[0] != "hear":
        return event
    return (house, stamp, ("hear", places[deed[1]]))
