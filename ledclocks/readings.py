"""Lines read as rows of deeds, and as LOGS, word by word."""

from ledclocks.errors import NoText
from ledclocks.houses import is_house, is_link
from ledclocks.numbers import is_word
from ledclocks.ratios import ONE, is_fraction

FIGURES = "0123456789"
MOST_FIGURES = 9
# A line stands behind those of its own place and of lesser ones; a deed's line has the last place.
PLACES = {"court": 0, "house": 1, "link": 2, "member": 3, "line": 4, "note": 5, "up": 5, "wire": 5, "round": 5}
DEEDS = ("note", "up", "wire", "round")


class Line:
    """The words of a line, taken one by one; the first that can't stand is refused."""

    def __init__(self, number, text):
        self.number = number
        self.words = text.split(" ")
        self.taken = 0

    def take(self):
        """The next word."""
        if self.taken == len(self.words):
            raise NoText(self.number, self.taken)
        self.taken += 1
        return self.words[self.taken - 1]

    def need(self, truth):
        """Refuses the word that was taken last, unless truth."""
        if not truth:
            raise NoText(self.number, self.taken - 1)

    def take_end(self):
        """Refuses a word too many."""
        if self.taken < len(self.words):
            raise NoText(self.number, self.taken)

    def take_choice(self, words):
        """A word that is one of these."""
        word = self.take()
        self.need(word in words)
        return word

    def take_name(self):
        """A WORD."""
        word = self.take()
        self.need(is_word(word))
        return word

    def take_number(self):
        """A NUMBER."""
        number = number_read(self.take())
        self.need(number is not None)
        return number

    def take_count(self):
        """A NUMBER from 0 on."""
        number = self.take_number()
        self.need(number >= 0)
        return number

    def take_fraction(self):
        """A FRACTION."""
        fraction = fraction_read(self.take())
        self.need(fraction is not None)
        return fraction

    def take_most(self):
        """A FRACTION, or None."""
        word = self.take()
        fraction = fraction_read(word)
        self.need(fraction is not None or word == "-")
        return fraction

    def take_truth(self):
        """A truth."""
        return self.take_choice(("yes", "no")) == "yes"


def number_read(word):
    """The NUMBER that a word writes, None where it writes none."""
    figures = word[1:] if word.startswith("-") else word
    if not 1 <= len(figures) <= MOST_FIGURES or not all([sign in FIGURES for sign in figures]):
        return None
    if figures.startswith("0") and word != "0":
        return None
    return int(word)


def fraction_read(word):
    """The FRACTION that a word writes, None where it writes none."""
    above, slash, below = word.partition("/")
    fraction = (number_read(above), 1 if slash == "" else number_read(below))
    # A whole FRACTION is written without a slash, so that each has one text alone.
    if not is_fraction(fraction) or slash != "" and fraction[1] == 1:
        return None
    return fraction


def read_row(text):
    """The row of a deed that a text writes."""
    line = Line(0, text)
    row = deed_read(line, line.take_choice(DEEDS))
    line.take_end()
    return row


def read_log(lines):
    """The LOG that a list of lines writes."""
    if len(lines) == 0:
        raise NoText(0, 0)
    found = [[] for place in range(6)]
    place = 0
    for number, text in enumerate(lines):
        line = Line(number, text)
        kind = line.take_choice(kinds_behind(number, place))
        place = PLACES[kind]
        found[place].append(part_read(line, kind, found))
        line.take_end()
    return log_found(found, len(lines))


def kinds_behind(number, place):
    """The first words that a line of this number may have, behind lines of this place."""
    if number == 0:
        return ["court"]
    return [kind for kind in PLACES if PLACES[kind] >= max(place, 1)]


def log_found(found, many):
    """The LOG of what was found in so many lines."""
    heads, houses, links, members, wires, deeds = found
    source, most, age = heads[0]
    if (source, ONE, ONE) not in houses:
        raise NoText(many, 0)
    field = (tuple(houses), tuple(links), source)
    return (("court", field, tuple(members), tuple(wires), most, age), *deeds)


def part_read(line, kind, found):
    """What a line, its first word taken, writes behind what was found ahead."""
    heads, houses, links, members, wires, deeds = found
    if kind == "court":
        return head_read(line)
    if kind == "house":
        return house_read(line, houses)
    if kind == "link":
        return link_read(line, houses)
    if kind == "member":
        return member_read(line, members)
    if kind == "line":
        return wire_read(line, members, wires)
    return deed_read(line, kind)


def head_read(line):
    source = line.take_name()
    most = line.take_count()
    age = line.take_count()
    return (source, most, age)


def rising_name(line, rows):
    """A NAME above that of the last of rows."""
    name = line.take_name()
    line.need(len(rows) == 0 or rows[-1][0] < name)
    return name


def house_read(line, houses):
    name = rising_name(line, houses)
    slow = line.take_fraction()
    # A fast that is right in any case leaves slow alone to be looked at.
    line.need(is_house((name, slow, ONE)))
    fast = line.take_fraction()
    line.need(is_house((name, slow, fast)))
    return (name, slow, fast)


def link_read(line, houses):
    names = [house[0] for house in houses]
    start = line.take_choice(names)
    end = line.take_choice([name for name in names if name != start])
    least = line.take_fraction()
    line.need(is_link((start, end, least, None)))
    most = line.take_most()
    line.need(is_link((start, end, least, most)))
    return (start, end, least, most)


def member_read(line, members):
    name = rising_name(line, members)
    priority = line.take_count()
    rank = line.take_count()
    return (name, priority, rank)


def wire_read(line, members, wires):
    names = [member[0] for member in members]
    one = line.take_choice(names)
    other = line.take_choice([name for name in names if name > one])
    line.need(len(wires) == 0 or wires[-1] < (one, other))
    return (one, other)


def deed_read(line, kind):
    """The row of a deed whose first word was taken."""
    if kind == "note":
        return note_read(line)
    if kind == "up":
        name = line.take_name()
        return (kind, name, line.take_truth())
    if kind == "wire":
        one = line.take_name()
        other = line.take_name()
        return (kind, one, other, line.take_truth())
    return (kind,)


def note_read(line):
    house = line.take_name()
    stamp = line.take_fraction()
    word = line.take_choice(("mark", "send", "hear"))
    deed = (word,) if word == "mark" else (word, line.take_count())
    return ("note", house, stamp, deed)
