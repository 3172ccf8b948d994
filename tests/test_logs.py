"""[79]: LOGS, by kind alone."""

import random
import re
import unittest
from fractions import Fraction

from ledclocks.logs import is_log
from tests.court_things import DEEDS, FIELD, HEAD, MARK, MEMBERS, WIRES, court_of, random_log
from tests.things import bent, bent_twice, odd_things


def word(thing):
    return type(thing) is str and re.fullmatch("[a-z]{1,8}", thing) is not None


def count(thing):
    return type(thing) is int and thing >= 0


def fraction(thing):
    if type(thing) is not tuple or [type(part) for part in thing] != [int, int] or thing[1] <= 0:
        return False
    return Fraction(*thing).denominator == thing[1]


def things(thing, *kinds):
    """Whether thing is a tuple of things of these kinds."""
    return type(thing) is tuple and len(thing) == len(kinds) and all([kind(part) for kind, part in zip(kinds, thing)])


def rows(thing, *kinds):
    return type(thing) is tuple and all([things(row, *kinds) for row in thing])


def truth(thing):
    return type(thing) is bool


def rising(row):
    return all([one < other for one, other in zip(row, row[1:])])


def oracle_field(thing):
    if not things(thing, lambda part: True, lambda part: True, word):
        return False
    houses, links, source = thing
    if not rows(houses, word, fraction, fraction) or not rising([house[0] for house in houses]):
        return False
    if not all([0 < Fraction(*slow) <= 1 <= Fraction(*fast) for name, slow, fast in houses]):
        return False
    if not rows(links, word, word, fraction, lambda most: most is None or fraction(most)):
        return False
    names = [house[0] for house in houses]
    for start, end, least, most in links:
        if start == end or start not in names or end not in names or Fraction(*least) < 0:
            return False
        if most is not None and Fraction(*most) < Fraction(*least):
            return False
    return (source, (1, 1), (1, 1)) in houses


def oracle_deed(thing):
    if type(thing) is not tuple or not thing or type(thing[0]) is not str:
        return False
    rest = thing[1:]
    if thing[0] == "note":
        if not things(rest, word, fraction, lambda deed: type(deed) is tuple):
            return False
        deed = rest[2]
        return deed == ("mark",) or (things(deed, lambda kind: kind in ("send", "hear"), count))
    if thing[0] == "up":
        return things(rest, word, truth)
    if thing[0] == "wire":
        return things(rest, word, word, truth)
    return thing == ("round",)


def oracle(thing):
    """Whether thing is a LOG, told anew by [3], [8] and [79]."""
    if type(thing) is not tuple or not thing or type(thing[0]) is not tuple or len(thing[0]) != 6:
        return False
    head, field, members, wires, most, age = thing[0]
    if head != "court" or not oracle_field(field) or not count(most) or not count(age):
        return False
    if not rows(members, word, count, count) or not rows(wires, word, word):
        return False
    names = [member[0] for member in members]
    if not rising(names) or not rising(wires):
        return False
    if not all([one in names and other in names and one < other for one, other in wires]):
        return False
    return all([oracle_deed(row) for row in thing[1:]])


class TestIsLog(unittest.TestCase):
    def told(self, thing, wanted):
        self.assertIs(is_log(thing), wanted, thing)
        self.assertIs(oracle(thing), wanted, thing)

    def test_of_none_and_of_every_deed(self):
        self.told((HEAD,), True)
        self.told((HEAD,) + DEEDS, True)
        for row in DEEDS:
            self.told((HEAD, row), True)
        self.told((("court", ((("ann", (1, 1), (1, 1)),), (), "ann"), (), (), 0, 0),), True)

    def test_of_courts(self):
        rng = random.Random(79)
        for trial in range(40):
            log = court_of(random_log(rng)).log()
            self.told(log, True)
            self.told(list(log), False)
            self.told(log[1:], False)

    def test_what_would_be_refused_is_a_row(self):
        for row in (("note", "zed", (0, 1), MARK), ("note", "ann", (0, 1), ("send", 99)),
                    ("note", "ann", (0, 1), ("hear", 10 ** 50)), ("note", "ann", (-(10 ** 40), 3), ("hear", 0)),
                    ("up", "zed", True), ("wire", "zed", "yam", False), ("wire", "ann", "ann", True),
                    ("wire", "ann", "cy", True)):
            self.told((HEAD, row), True)
            self.told((HEAD, row, row) + DEEDS, True)
        self.told((HEAD, ("note", "ann", (5, 1), MARK), ("note", "ann", (4, 1), MARK)), True)

    def test_whatever_is_told_as_bounds(self):
        names = ["h" + "abcdefghijklmnopqrstuvwxyz"[k] for k in range(20)]
        houses = tuple([(name, (1, 10 ** 30), (10 ** 30, 7)) for name in names[1:]])
        field = (((names[0], (1, 1), (1, 1)),) + houses, (("hc", "hd", (0, 1), (10 ** 50, 3)),) * 40, names[0])
        members = tuple([(name, 10 ** 40, 0) for name in names])
        wires = tuple([(names[0], name) for name in names[1:]])
        self.told((("court", field, members, wires, 10 ** 30, 10 ** 30),) + (("round",),) * 300, True)

    def test_first_rows_amid_and_none(self):
        for thing in ((HEAD, HEAD), (HEAD,) + DEEDS + (HEAD,), DEEDS, (), (DEEDS[0], HEAD), HEAD, [HEAD], None,
                      (HEAD, ()), (HEAD, None), (HEAD, DEEDS), (HEAD, ("court",)), (HEAD[:5],), (HEAD + (0,),),
                      (("round",),), (("court",),), ((),)):
            self.told(thing, False)

    def test_rows_of_other_kinds(self):
        for row in (("note", "ann", (0, 1)), ("note", "ann", (0, 1), MARK, 0), ("note", "ann", (0, 1), "mark"),
                    ("note", "ann", (0, 1), ("mark", 0)), ("note", "ann", (0, 1), ("send",)),
                    ("note", "ann", (0, 1), ("send", -1)), ("note", "ann", (0, 1), ("hear", -1)),
                    ("note", "ann", (0, 1), ("hear", True)), ("note", "ann", (0, 1), ("hear", 0, 0)),
                    ("note", "ann", (0, 1), ("go", 0)), ("note", "ann", (0, 1), ()), ("note", "ann", (2, 2), MARK),
                    ("note", "ann", 0, MARK), ("note", "Ann", (0, 1), MARK), ("note", "", (0, 1), MARK),
                    ("note", "ann", (0, 1), ["mark"]), ("up", "ann"), ("up", "ann", 1), ("up", "ann", 0),
                    ("up", "ann", None), ("up", "ann", "yes"), ("up", "ann", True, True), ("up", 0, True),
                    ("up", "abcdefghi", True), ("wire", "ann", "bo"), ("wire", "ann", "bo", 1),
                    ("wire", "ann", "bo", None), ("wire", "ann", True), ("wire", "ann", "Bo", True),
                    ("wire", ("ann", "bo"), True), ("wire", "ann", "bo", True, True), ("round", 0), ("round", ()),
                    ["round"], "round", ("go_round",), ("Round",), ("undo",), ("line", "ann", "bo"), ("",), (0,),
                    (("round",),), (None,), (True,), (["round"],)):
            self.told((HEAD, row), False)
            self.told((HEAD, ("round",), row, ("round",)), False)

    def test_first_rows_of_other_kinds(self):
        for field, members, wires, most, age in (
                (FIELD, MEMBERS, WIRES, -1, 1), (FIELD, MEMBERS, WIRES, 4, -1), (FIELD, MEMBERS, WIRES, True, 1),
                (FIELD, MEMBERS, WIRES, 4, False), (FIELD, MEMBERS, WIRES, None, 1), (FIELD, MEMBERS, None, 4, 1),
                (FIELD, MEMBERS[::-1], WIRES, 4, 1), (FIELD, MEMBERS, WIRES[::-1], 4, 1),
                (FIELD, MEMBERS, (("bo", "ann"),), 4, 1), (FIELD, MEMBERS, (("ann", "zed"),), 4, 1),
                (FIELD, (), WIRES, 4, 1), (FIELD, list(MEMBERS), WIRES, 4, 1), (FIELD, MEMBERS, list(WIRES), 4, 1),
                (FIELD, (("ann", -1, 0),), (), 4, 1), (FIELD, (("ann", True, 0),), (), 4, 1),
                (FIELD[:2] + ("bo",), MEMBERS, WIRES, 4, 1), (FIELD[:2], MEMBERS, WIRES, 4, 1),
                (list(FIELD), MEMBERS, WIRES, 4, 1), (((), (), "ann"), MEMBERS, WIRES, 4, 1)):
            self.told((("court", field, members, wires, most, age),), False)
        for name in ("Court", "", "log", None, 0, ("court",), ["court"]):
            self.told(((name,) + HEAD[1:],), False)
        self.told((list(HEAD),), False)
        self.told((HEAD[:2] + ((), ()) + HEAD[4:],), True)

    def test_odd_things(self):
        for thing in odd_things():
            self.told(thing, False)
            self.told((thing,), False)
            self.told((HEAD, thing), False)

    def test_bent_at_any_place_and_depth(self):
        rng = random.Random(80)
        seen = []
        for log in [(HEAD,) + DEEDS] + [random_log(rng, 6) for trial in range(6)]:
            for thing in list(bent(log)) + list(bent_twice(rng, log, 60)):
                wanted = oracle(thing)
                self.assertIs(is_log(thing), wanted, thing)
                seen.append(wanted)
        self.assertGreater(seen.count(False), 2000)
        self.assertGreater(seen.count(True), 5)

    def test_by_name(self):
        self.assertIs(is_log(thing=(HEAD,)), True)


if __name__ == "__main__":
    unittest.main()
