"""A desk: it answers rows, any texts, with texts."""

from ledclocks.errors import NoRow, NoText
from ledclocks.readings import DEEDS, Line, read_log, read_row
from ledclocks.replaying import replayed
from ledclocks.texts import line_of, row_line, word_of

PLAIN_ROWS = ("undo", "count", "log", "stands", "follows", "leaders")


class Desk:
    """A COURT, at first none, that is led and asked by rows."""

    def __init__(self):
        self.court = None

    def say(self, row):
        """Answers a row."""
        try:
            asked = asked_by(row)
        except NoText:
            raise NoRow(row) from None
        if self.court is None and asked[0] != "court":
            raise NoRow(row)
        return self.answer(asked)

    def answer(self, asked):
        """Does what is asked, or tells it."""
        word = asked[0]
        if word == "court":
            self.court = replayed(asked[1])
            return "ok"
        if word == "deed":
            told = self.court.do_row(asked[1])
            return "ok" if told is None else word_of(told)
        if word == "undo":
            return row_line(self.court.undo())
        if word in ("best", "follows", "leaders"):
            return net_told(self.court, asked)
        return time_told(self.court, asked)


def asked_by(row):
    """What a row asks, a tuple: a word, and what goes with it; refused with NoText where it is none."""
    line = Line(0, row)
    word = line.take()
    if word == "court":
        return (word, log_alone(row))
    if word in DEEDS:
        return ("deed", read_row(row))
    rest = rest_read(line, word)
    line.take_end()
    return (word, *rest)


def log_alone(row):
    """The LOG, of no deeds, whose lines, up to its wires, a row writes."""
    log = read_log(row.split(" / "))
    if len(log) > 1:
        raise NoText(0, 0)
    return log


def rest_read(line, word):
    """What goes with the first word of a row that only asks, or undoes; a list."""
    if word in ("kept", "heard"):
        return [line.take_number()]
    if word == "now":
        return [line.take_name(), line.take_fraction()]
    if word == "best":
        return [line.take_name()]
    line.need(word in PLAIN_ROWS)
    return []


def net_told(court, asked):
    """What a COURT tells of its NET."""
    if asked[0] == "follows":
        return list_told([f"{name}.{who}" for name, who in court.follows()])
    if asked[0] == "leaders":
        return list_told(court.leaders())
    best = court.best(asked[1])
    if best is None:
        return "none"
    key, steps, who = best
    return line_of((*key, steps, who))


def time_told(court, asked):
    """What a COURT tells of its HISTORY and its LOG."""
    word = asked[0]
    if word == "count":
        return word_of(len(court))
    if word == "log":
        return str(court)
    if word == "stands":
        return court.stands()[0]
    if word == "kept":
        return line_of(court.kept(asked[1]))
    if word == "heard":
        return line_of(court.heard(asked[1]))
    return line_of(court.now(asked[1], asked[2]))


def list_told(words):
    """Words with blanks between, - of none."""
    return "-" if len(words) == 0 else " ".join(words)
