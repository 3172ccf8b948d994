"""LOGS and rows of deeds as lines: words with single blanks between."""

FIGURES_AT_ONCE = 60
CHUNK = 10 ** 60


def row_line(row):
    """The line of a deed's row."""
    if row[0] == "note":
        return line_of(row[:3] + row[3])
    return line_of(row)


def log_lines(log):
    """The lines of a LOG, a list."""
    word, field, members, wires, most, age = log[0]
    houses, links, source = field
    lines = [line_of((word, source, most, age))]
    for kind, things in (("house", houses), ("link", links), ("member", members), ("line", wires)):
        lines.extend([line_of((kind,) + thing) for thing in things])
    lines.extend([row_line(row) for row in log[1:]])
    return lines


def line_of(things):
    """A line of texts, NUMBERS, FRACTIONS, truths and None, a word each."""
    return " ".join([word_of(thing) for thing in things])


def word_of(thing):
    """The word that writes one thing."""
    if thing is None:
        return "-"
    if isinstance(thing, bool):
        return "yes" if thing else "no"
    if isinstance(thing, str):
        return thing
    if isinstance(thing, tuple):
        return fraction_word(thing)
    return number_word(thing)


def fraction_word(fraction):
    a, b = fraction
    return number_word(a) if b == 1 else number_word(a) + "/" + number_word(b)


def number_word(number):
    """A NUMBER by figures."""
    if number < 0:
        return "-" + number_word(-number)
    parts = []
    rest = number
    # Python's own str balks at some thousands of figures, so long NUMBERS are written bit by bit.
    while rest >= CHUNK:
        rest, last = divmod(rest, CHUNK)
        parts.append(str(last).zfill(FIGURES_AT_ONCE))
    return "".join([str(rest)] + parts[::-1])
