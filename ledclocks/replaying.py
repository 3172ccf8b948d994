"""LOGS done again."""

from ledclocks.court import Court


def replayed(log):
    """A new COURT of a LOG's first row at which its deeds were done."""
    word, field, members, wires, most, age = log[0]
    court = Court(field, members, wires, most=most, age=age)
    court.do_all(log[1:])
    return court
