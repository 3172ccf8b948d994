"""[79], [81], [82]: lines read as rows and as LOGS."""

import random
import re
import unittest
from fractions import Fraction

from ledclocks.errors import NoText
from ledclocks.houses import is_field
from ledclocks.nets import is_net
from ledclocks.readings import read_log, read_row
from ledclocks.texts import log_lines, row_line
from tests.court_things import DEEDS, HEAD, random_log
from tests.things import refusal_of

LINES = ["court ann 4 1", "house ann 1 1", "house bo 1/2 3/2", "link ann bo 0 -", "link bo ann 1/3 5/2",
         "member ann 0 12", "member bo 3 0", "member cy 0 0", "line ann bo", "line bo cy"]
LOG = (("court", ((("ann", (1, 1), (1, 1)), ("bo", (1, 2), (3, 2))),
                  (("ann", "bo", (0, 1), None), ("bo", "ann", (1, 3), (5, 2))), "ann"),
        (("ann", 0, 12), ("bo", 3, 0), ("cy", 0, 0)), (("ann", "bo"), ("bo", "cy")), 4, 1),)
DEED_LINES = ["note ann 5/2 mark", "note ann 3 send 0", "note bo 4 hear 1", "up ann no", "up ann yes",
              "wire ann bo yes", "wire ann ann no", "round", "note zed -7/3 hear 999999999", "note a 0 send 0"]
DEED_ROWS = [("note", "ann", (5, 2), ("mark",)), ("note", "ann", (3, 1), ("send", 0)),
             ("note", "bo", (4, 1), ("hear", 1)), ("up", "ann", False), ("up", "ann", True),
             ("wire", "ann", "bo", True), ("wire", "ann", "ann", False), ("round",),
             ("note", "zed", (-7, 3), ("hear", 999999999)), ("note", "a", (0, 1), ("send", 0))]
RANKS = {"court": 0, "house": 1, "link": 2, "member": 3, "line": 4, "note": 5, "up": 5, "wire": 5, "round": 5}
SPOILS = ["", "x", "ann", "bo", "cy", "zed", "Ann", "abcdefghi", "0", "00", "-0", "01", "1", "-1", "999999999",
          "1000000000", "-999999999", "-1000000000", "1/2", "2/4", "2/1", "1/0", "0/1", "0/2", "1/-2", "-1/2", "-",
          "--1", "1/", "/2", "/", "1/2/3", "+1", "1.5", "1_0", "yes", "no", "mark", "send", "hear", "court", "house",
          "link", "member", "line", "note", "up", "wire", "round", "3/2", "999999999/2", "1/999999999",
          "1/1000000000", "1/01", "~"]


def figures(word):
    return re.fullmatch("0|-?[1-9][0-9]{0,8}", word) is not None


def fraction(word):
    """The Fraction that a word writes, None where it writes none."""
    parts = word.split("/")
    if len(parts) > 2 or not all([figures(part) for part in parts]):
        return None
    if len(parts) == 1:
        return Fraction(int(word))
    a, b = int(parts[0]), int(parts[1])
    if b < 2 or Fraction(a, b).denominator != b:
        return None
    return Fraction(a, b)


def name(word):
    return re.fullmatch("[a-z]{1,8}", word) is not None


def count(word):
    return figures(word) and int(word) >= 0


def between(word, low, high):
    told = fraction(word)
    return told is not None and (low is None or low <= told) and (high is None or told <= high)


def positive(word):
    return between(word, 0, 1) and fraction(word) != 0


def slots(words, ahead):
    """A look for each word of a line that begins so, each at a word; ahead are the lines ahead, cut to words."""
    houses = [row[1] for row in ahead if row[0] == "house"]
    members = [row[1] for row in ahead if row[0] == "member"]
    wires = [row[1:] for row in ahead if row[0] == "line"]
    kind = words[0]
    if kind == "court":
        return [name, count, count]
    if kind == "house":
        return [lambda word: name(word) and all([word > other for other in houses]), positive,
                lambda word: between(word, 1, None)]
    if kind == "link":
        return [lambda word: word in houses, lambda word: word in houses and word != words[1],
                lambda word: between(word, 0, None),
                lambda word: word == "-" or between(word, fraction(words[3]), None)]
    if kind == "member":
        return [lambda word: name(word) and all([word > other for other in members]), count, count]
    if kind == "line":
        return [lambda word: word in members,
                lambda word: word in members and word > words[1] and all([[words[1], word] > row for row in wires])]
    return deed_slots(words)


def deed_slots(words):
    if words[0] == "up":
        return [name, lambda word: word in ("yes", "no")]
    if words[0] == "wire":
        return [name, name, lambda word: word in ("yes", "no")]
    if words[0] == "round":
        return []
    looks = [name, lambda word: fraction(word) is not None, lambda word: word in ("mark", "send", "hear")]
    return looks if words[3:4] == ["mark"] else looks + [count]


def first_wrong(words, looks):
    """The first word, behind the first one, that can't stand, None where all do."""
    for at in range(1, max(len(words), len(looks) + 1)):
        if at >= len(words) or at > len(looks) or not looks[at - 1](words[at]):
            return at
    return None


def oracle_row(text):
    words = text.split(" ")
    if RANKS.get(words[0]) != 5:
        return (0, 0)
    wrong = first_wrong(words, deed_slots(words))
    return None if wrong is None else (0, wrong)


def oracle_log(lines):
    """The row and the word that [82] refuses, None where lines are a LOG's."""
    if lines == []:
        return (0, 0)
    ahead = []
    rank = 0
    for row, text in enumerate(lines):
        words = text.split(" ")
        if words[0] not in RANKS or (words[0] == "court") != (row == 0) or RANKS[words[0]] < rank:
            return (row, 0)
        wrong = first_wrong(words, slots(words, ahead))
        if wrong is not None:
            return (row, wrong)
        rank = RANKS[words[0]]
        ahead.append(words)
    return None if ["house", ahead[0][1], "1", "1"] in ahead else (len(lines), 0)


class Readings(unittest.TestCase):
    def check_row(self, text):
        wanted = oracle_row(text)
        refused = refusal_of(read_row, text)
        self.assertEqual(repr(refused), repr(None if wanted is None else (NoText,) + wanted), text)
        if wanted is None:
            self.assertEqual(row_line(read_row(text)), text)
        return wanted

    def check_log(self, lines):
        wanted = oracle_log(lines)
        refused = refusal_of(read_log, lines)
        self.assertEqual(repr(refused), repr(None if wanted is None else (NoText,) + wanted), lines)
        if wanted is None:
            log = read_log(lines)
            self.assertEqual(log_lines(log), lines)
            self.assertTrue(is_field(log[0][1]) and is_net(log[0][2:4]))
        return wanted

    def log_refused(self, lines, row, word):
        self.assertEqual(repr(refusal_of(read_log, lines)), repr((NoText, row, word)), lines)
        self.assertEqual(self.check_log(lines), (row, word))

    def row_refused(self, text, word):
        self.assertEqual(repr(refusal_of(read_row, text)), repr((NoText, 0, word)), text)
        self.assertEqual(self.check_row(text), (0, word))


class TestReadRow(Readings):
    def test_each_row(self):
        for line, row in zip(DEED_LINES, DEED_ROWS):
            self.assertEqual(repr(read_row(line)), repr(row))
            self.assertEqual(row_line(row), line)
            self.assertIsNone(self.check_row(line))

    def test_what_is_written_is_read_as_the_same(self):
        rng = random.Random(81)
        for trial in range(60):
            for row in random_log(rng, short=True)[1:]:
                self.assertEqual(repr(read_row(row_line(row))), repr(row))

    def test_void_words(self):
        for text, word in (("", 0), (" ", 0), ("  ", 0), (" round", 0), ("round ", 1), ("round  ", 1),
                           ("note  ann 3 mark", 1), ("note ann  3 mark", 2), ("note ann 3  mark", 3),
                           ("note ann 3 mark ", 4), ("note ann 3 send ", 4), ("note ann 3 send  0", 4),
                           ("note ann 3 send 0 ", 5), ("up ann ", 2), ("wire ann bo  yes", 3)):
            self.row_refused(text, word)

    def test_words_that_lack_and_words_too_many(self):
        for line in DEED_LINES:
            words = line.split(" ")
            for many in range(1, len(words)):
                self.row_refused(" ".join(words[:many]), many)
            for more in ("x", "0", "mark", "yes", "round"):
                self.row_refused(line + " " + more, len(words))

    def test_other_first_words(self):
        for text in ("court ann 4 1", "house ann 1 1", "link ann bo 0 -", "member ann 0 1", "line ann bo", "undo", "x",
                     "ROUND", "Round", "notes ann 3 mark", "-", "/", "0", "note/ann"):
            self.row_refused(text, 0)

    def test_numbers(self):
        for word in ("0", "9", "10", "-1", "999999999", "-999999999", "1/2", "-1/2", "999999999/2", "1/999999999",
                     "-999999998/999999999"):
            self.assertIsNone(self.check_row("note ann " + word + " mark"), word)
        for word in ("00", "01", "-0", "-01", "1000000000", "-1000000000", "0000000001", "2/4", "2/1", "1/1", "0/1",
                     "0/3", "1/0", "0/0", "1/-2", "-1/-2", "1/", "/2", "/", "-", "--1", "+1", "1.0", "1/2/3", "1/02",
                     "01/2", "1000000001/2", "1/1000000000", "6/9", "-4/2", "1e3", "1_0", "x", "0x1", "-/2", "1/-"):
            self.row_refused("note ann " + word + " mark", 2)
        for word in ("0", "7", "999999999"):
            self.assertIsNone(self.check_row("note ann 0 hear " + word))
        for word in ("-1", "-0", "01", "1/2", "1000000000", "-", "x"):
            self.row_refused("note ann 0 send " + word, 4)
            self.row_refused("note ann 0 hear " + word, 4)

    def test_words_and_truths(self):
        for word in ("Ann", "abcdefghi", "a1", "0", "-", "a.b", "~"):
            self.row_refused("note " + word + " 0 mark", 1)
            self.row_refused("up " + word + " yes", 1)
            self.row_refused("wire " + word + " bo yes", 1)
            self.row_refused("wire bo " + word + " yes", 2)
        for word in ("Yes", "True", "1", "y", "-", "mark"):
            self.row_refused("up ann " + word, 2)
            self.row_refused("wire ann bo " + word, 3)
        for word in ("Mark", "sends", "round", "0", "yes"):
            self.row_refused("note ann 0 " + word, 3)

    def test_the_first_word_that_cant_stand(self):
        self.row_refused("note Ann 2/4 marks x", 1)
        self.row_refused("note ann 2/4 marks x", 2)
        self.row_refused("note ann 2 marks x", 3)
        self.row_refused("note ann 2 mark x y", 4)

    def test_spoilt_once_and_twice(self):
        rng = random.Random(82)
        for line in DEED_LINES:
            words = line.split(" ")
            for at in range(len(words) + 1):
                for word in SPOILS:
                    self.check_row(" ".join(words[:at] + [word] + words[at + 1:]))
                    self.check_row(" ".join(words[:at] + [word] + words[at:]))
            for turn in range(200):
                spoilt = list(words)
                for spoil in range(2):
                    spoilt[rng.randrange(len(spoilt))] = rng.choice(SPOILS)
                self.check_row(" ".join(spoilt))

    def test_by_name(self):
        self.assertEqual(read_row(text="round"), ("round",))


class TestReadLog(Readings):
    def test_a_log(self):
        self.assertEqual(repr(read_log(LINES)), repr(LOG))
        self.assertEqual(repr(read_log(LINES + DEED_LINES)), repr(LOG + tuple(DEED_ROWS)))
        self.assertEqual(log_lines(LOG + tuple(DEED_ROWS)), LINES + DEED_LINES)
        self.assertEqual(read_log(log_lines((HEAD,) + DEEDS)), (HEAD,) + DEEDS)

    def test_the_least_one(self):
        self.assertEqual(read_log(["court a 0 0", "house a 1 1"]),
                         (("court", ((("a", (1, 1), (1, 1)),), (), "a"), (), (), 0, 0),))

    def test_what_is_written_is_read_as_the_same(self):
        rng = random.Random(83)
        for trial in range(80):
            log = random_log(rng, short=True)
            self.assertEqual(repr(read_log(log_lines(log))), repr(log))
            self.assertIsNone(self.check_log(log_lines(log)))

    def test_nothing_is_changed(self):
        lines = list(LINES)
        read_log(lines)
        self.assertEqual(lines, LINES)

    def test_no_lines(self):
        self.log_refused([], 0, 0)

    def test_lines_that_end_without_the_source(self):
        self.log_refused(["court ann 4 1"], 1, 0)
        self.log_refused(["court zed 4 1"] + LINES[1:], 10, 0)
        self.log_refused(["court bo 4 1"] + LINES[1:], 10, 0)
        self.log_refused(["court ann 4 1", "note ann 0 mark", "round"], 3, 0)
        for house in ("house ann 1/2 1", "house ann 1 3/2", "house ann 1/2 3/2"):
            self.log_refused(LINES[:1] + [house], 2, 0)
            self.log_refused(LINES[:1] + [house] + LINES[2:] + DEED_LINES, 20, 0)
            self.log_refused(LINES[:1] + [house] + LINES[2:] + ["x"], 10, 0)

    def test_where_lines_cant_stand(self):
        self.log_refused(LINES[1:], 0, 0)
        self.log_refused(["round"], 0, 0)
        self.log_refused([""], 0, 0)
        self.log_refused(["x"] + LINES, 0, 0)
        for at in range(1, len(LINES) + 1):
            self.log_refused(LINES[:at] + ["court ann 4 1"] + LINES[at:], at, 0)
            self.log_refused(LINES[:at] + [""] + LINES[at:], at, 0)
            self.log_refused(LINES[:at] + ["undo"] + LINES[at:], at, 0)
        for at, line in ((3, "link ann bo 0 -"), (5, "member zed 0 0"), (8, "line ann cy"), (10, "round")):
            for elder in LINES[1:at]:
                if elder.split(" ")[0] != line.split(" ")[0]:
                    self.log_refused(LINES[:at] + [line] + [elder], at + 1, 0)
        # Where a line can't stand nothing else of it is looked at.
        self.log_refused(LINES + ["round", "house Ann x"], 11, 0)

    def test_houses(self):
        for line, word in (("house ann 1 1", 1), ("house ab 1 1", 1), ("house bo 1 1", 1), ("house", 1), ("house cy", 2),
                           ("house Cy 1 1", 1), ("house cy 0 1", 2), ("house cy -1/2 1", 2), ("house cy 3/2 2", 2),
                           ("house cy - 1", 2), ("house cy 1 1/2", 3), ("house cy 1 -1", 3), ("house cy 1", 3),
                           ("house cy 1 -", 3), ("house cy 1 1 1", 4), ("house  cy 1 1", 1), ("house ann 0 0", 1)):
            self.log_refused(LINES[:3] + [line] + LINES[3:], 3, word)
        self.assertIsNone(self.check_log(LINES[:3] + ["house cy 1 1", "house zed 1/999999999 999999999"] + LINES[3:]))

    def test_links(self):
        for line, word in (("link", 1), ("link zed bo 0 -", 1), ("link Ann bo 0 -", 1), ("link ann", 2),
                           ("link ann zed 0 -", 2), ("link ann ann 0 -", 2), ("link ann bo", 3), ("link ann bo - -", 3),
                           ("link ann bo -1 -", 3), ("link ann bo 2/4 -", 3), ("link ann bo 1", 4),
                           ("link ann bo 1 1/2", 4), ("link ann bo 1 -1", 4), ("link ann bo 1 x", 4),
                           ("link ann bo 1 - -", 5), ("link ann bo 1 1 ", 5), ("link zed zed x x", 1)):
            self.log_refused(LINES[:4] + [line] + LINES[4:], 4, word)
        for line in ("link ann bo 1 1", "link bo ann 0 0", "link ann bo 0 -", "link ann bo 1/3 1/2"):
            self.assertIsNone(self.check_log(LINES[:4] + [line] + LINES[4:]))
        self.log_refused(["court ann 4 1", "link ann bo 0 -"], 1, 1)
        self.log_refused(["court ann 4 1", "house ann 1 1", "link ann bo 0 -"], 2, 2)

    def test_members_and_lines(self):
        for line, word in (("member bo 0 0", 1), ("member ann 0 0", 1), ("member", 1), ("member bz -1 0", 2),
                           ("member bz 1/2 0", 2), ("member bz 0 -1", 3), ("member bz 0", 3), ("member bz 0 0 0", 4),
                           ("member b9 0 0", 1), ("member bz 01 0", 2)):
            self.log_refused(LINES[:7] + [line] + LINES[7:], 7, word)
        for line, word in (("line", 1), ("line zed cy", 1), ("line ann", 2), ("line ann zed", 2), ("line ann ann", 2),
                           ("line bo ann", 2), ("line ann bo", 2), ("line cy bo", 2), ("line cy ann", 2),
                           ("line ann cy x", 3), ("line ann cy ", 3), ("line house cy", 1)):
            self.log_refused(LINES[:9] + [line] + LINES[9:], 9, word)
        self.assertIsNone(self.check_log(LINES[:9] + ["line ann cy"] + LINES[9:]))
        self.log_refused(LINES + ["line ann cy"], 10, 2)
        self.log_refused(LINES + ["line bo cy"], 10, 2)

    def test_the_court_line(self):
        for line, word in (("court", 1), ("court Ann 4 1", 1), ("court ann", 2), ("court ann -1 1", 2),
                           ("court ann 1/2 1", 2), ("court ann 4", 3), ("court ann 4 -1", 3), ("court ann 4 x", 3),
                           ("court ann 4 1 1", 4), ("court  ann 4 1", 1), (" court ann 4 1", 0), ("court ann 4 1 ", 4),
                           ("court ann 1000000000 1", 2), ("court ann 04 1", 2)):
            self.log_refused([line] + LINES[1:], 0, word)
        self.assertIsNone(self.check_log(["court ann 999999999 0"] + LINES[1:]))

    def test_deeds_with_their_rows(self):
        for at in range(len(DEED_LINES)):
            for line, word in (("note ann 0 send -1", 4), ("note ann", 2), ("up ann x", 2), ("round 1", 1), (" ", 0)):
                lines = LINES + DEED_LINES[:at] + [line] + DEED_LINES[at:]
                self.log_refused(lines, len(LINES) + at, word)

    def test_the_first_line_goes(self):
        self.log_refused(LINES[:3] + ["link ann bo x", "house Ann"], 3, 3)
        self.log_refused(["court zed 4 1", "house ann 0 1"], 1, 2)

    def test_spoilt_once(self):
        lines = LINES + DEED_LINES[:3]
        for row in range(len(lines)):
            words = lines[row].split(" ")
            for at in range(len(words) + 1):
                for word in SPOILS:
                    self.check_log(lines[:row] + [" ".join(words[:at] + [word] + words[at + 1:])] + lines[row + 1:])
                self.check_log(lines[:row] + [" ".join(words[:at])] + lines[row + 1:])
            self.check_log(lines[:row] + lines[row + 1:])
            for other in range(len(lines)):
                self.check_log(lines[:row] + [lines[other]] + lines[row:])
                self.check_log(lines[:row] + [lines[other]] + lines[row + 1:])

    def test_spoilt_twice(self):
        rng = random.Random(84)
        seen = []
        for trial in range(250):
            lines = log_lines(random_log(rng, short=True))
            for turn in range(20):
                spoilt = list(lines)
                for spoil in range(rng.randint(1, 2)):
                    row = rng.randrange(len(spoilt))
                    words = spoilt[row].split(" ")
                    words[rng.randrange(len(words))] = rng.choice(SPOILS)
                    spoilt[row] = " ".join(words)
                seen.append(self.check_log(spoilt))
        self.assertGreater(seen.count(None), 100)
        self.assertGreater(len(set(seen)), 60)

    def test_what_stands_ahead_alone_tells_the_word(self):
        rng = random.Random(85)
        for trial in range(60):
            lines = log_lines(random_log(rng, short=True))
            row = rng.randrange(len(lines))
            words = lines[row].split(" ")
            words[rng.randrange(len(words))] = rng.choice(SPOILS)
            spoilt = lines[:row] + [" ".join(words)]
            refused = refusal_of(read_log, spoilt)
            if refused is None or refused[1] > row:
                continue
            cut = spoilt[:row] + [" ".join(words[:refused[2] + 1])]
            self.assertEqual(refusal_of(read_log, cut + ["x", "round"]), refused)

    def test_by_name(self):
        self.assertEqual(read_log(lines=LINES), LOG)


if __name__ == "__main__":
    unittest.main()
