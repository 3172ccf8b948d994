"""[3], [10]: HOUSES, LINKS, FIELDS."""

import itertools
import random
import unittest

from ledclocks.houses import is_field, is_house, is_link
from tests.things import bent, odd_things, random_field

ANN = ("ann", (1, 1), (1, 1))
BO = ("bo", (1, 2), (3, 2))
CY = ("cy", (2, 3), (2, 1))
LINK = ("ann", "bo", (1, 2), (3, 2))
FIELD = ((ANN, BO, CY), (LINK, LINK, ("bo", "ann", (0, 1), None), ("cy", "bo", (1, 1), (1, 1))), "ann")


class TestIsHouse(unittest.TestCase):
    def check(self, thing, truth):
        self.assertIs(is_house(thing), truth, thing)

    def test_plain_ones(self):
        for thing in (ANN, BO, CY, ("a", (1, 99), (99, 1)), ("abcdefgh", (98, 99), (99, 98)),
                      ("ann", (1, 10 ** 50), (10 ** 50, 1))):
            self.check(thing, True)

    def test_slow_at_its_bounds_and_beyond(self):
        for slow, truth in (((1, 1), True), ((99, 100), True), ((1, 10 ** 40), True), ((0, 1), False),
                            ((-1, 2), False), ((-1, 1), False), ((100, 99), False), ((2, 1), False),
                            ((10 ** 40 + 1, 10 ** 40), False)):
            self.check(("ann", slow, (2, 1)), truth)

    def test_fast_at_its_bounds_and_beyond(self):
        for fast, truth in (((1, 1), True), ((100, 99), True), ((10 ** 40, 1), True), ((99, 100), False),
                            ((0, 1), False), ((-1, 1), False), ((-2, 1), False), ((1, 2), False),
                            ((10 ** 40, 10 ** 40 + 1), False)):
            self.check(("ann", (1, 2), fast), truth)

    def test_no_fractions_in_it(self):
        for part in ((2, 2), (2, 4), (1, 0), (1, -1), (-1, -1), [1, 1], (1,), (1, 1, 1), (True, 1), (1, True), None, 1,
                     "1", True, ((1, 1),)):
            self.check(("ann", part, (1, 1)), False)
            self.check(("ann", (1, 1), part), False)

    def test_no_name_in_it(self):
        for name in ("", "Ann", "abcdefghi", "an n", "ann1", None, 1, True, ["ann"], ("ann",)):
            self.check((name, (1, 1), (1, 1)), False)

    def test_other_shapes(self):
        self.check(list(BO), False)
        self.check(BO[:2], False)
        self.check(BO + (None,), False)
        self.check(((BO,),), False)
        self.check((BO,), False)
        self.check((BO[1], BO[0], BO[2]), False)
        for thing in odd_things():
            self.check(thing, thing == ANN)
        for thing in bent(BO):
            self.check(thing, False)

    def test_by_name(self):
        self.assertIs(is_house(thing=ANN), True)


class TestIsLink(unittest.TestCase):
    def check(self, thing, truth):
        self.assertIs(is_link(thing), truth, thing)

    def test_plain_ones(self):
        for thing in (LINK, ("bo", "ann", (0, 1), (0, 1)), ("a", "b", (0, 1), None), ("a", "b", (5, 1), None),
                      ("a", "b", (5, 1), (5, 1)), ("abcdefgh", "abcdefg", (1, 3), (1, 2))):
            self.check(thing, True)

    def test_least_and_most_at_their_bounds_and_beyond(self):
        for least, most, truth in (((0, 1), (0, 1), True), ((-1, 1), (0, 1), False), ((-1, 99), None, False),
                                   ((-1, 2), (-1, 2), False), ((1, 2), (1, 2), True), ((1, 2), (1, 3), False),
                                   ((1, 2), (49, 99), False), ((1, 2), (50, 99), True), ((1, 2), (-1, 2), False),
                                   ((0, 1), (-1, 2), False), ((10 ** 40, 1), None, True)):
            self.check(("ann", "bo", least, most), truth)

    def test_unlike_names(self):
        self.check(("ann", "ann", (0, 1), (1, 1)), False)
        self.check(("ann", "an", (0, 1), (1, 1)), True)
        self.check(("bo", "ann", (0, 1), (1, 1)), True)
        for name in ("", "Ann", "abcdefghi", None, 1, True, ["ann"], ("ann",)):
            self.check((name, "bo", (0, 1), (1, 1)), False)
            self.check(("bo", name, (0, 1), (1, 1)), False)

    def test_no_fractions_in_it(self):
        for part in ((2, 2), (2, 4), (1, 0), (1, -1), [1, 1], (1,), (True, 1), (1, True), 1, "1", True, False, (), []):
            self.check(("ann", "bo", part, (9, 1)), False)
            self.check(("ann", "bo", part, None), False)
            self.check(("ann", "bo", (0, 1), part), False)
        self.check(("ann", "bo", None, (1, 1)), False)
        self.check(("ann", "bo", None, None), False)

    def test_other_shapes(self):
        self.check(list(LINK), False)
        self.check(LINK[:3], False)
        self.check(LINK + (None,), False)
        self.check((LINK,), False)
        for thing in odd_things():
            self.check(thing, thing == ("ann", "bo", (0, 1), None))
        for thing in bent(LINK):
            self.check(thing, False)

    def test_by_name(self):
        self.assertIs(is_link(thing=LINK), True)


class TestIsField(unittest.TestCase):
    def check(self, thing, truth):
        self.assertIs(is_field(thing), truth, thing)

    def test_plain_ones(self):
        self.check(FIELD, True)
        self.check(((ANN,), (), "ann"), True)
        self.check(((ANN, BO), (LINK, LINK), "ann"), True)

    def test_all_made_ones(self):
        rng = random.Random(10)
        for trial in range(100):
            self.check(random_field(rng), True)

    def test_houses_exchanged_and_twice(self):
        for houses in itertools.permutations((ANN, BO, CY)):
            self.check((houses, (), "ann"), houses == (ANN, BO, CY))
        self.check(((ANN, ANN), (), "ann"), False)
        self.check(((ANN, BO, BO), (), "ann"), False)
        self.check(((ANN, ("ann", (1, 2), (1, 1))), (), "ann"), False)
        self.check(((ANN, BO, ("bo", (1, 1), (1, 1))), (), "ann"), False)

    def test_links_to_nobody(self):
        for link in (("ann", "dee", (0, 1), None), ("dee", "ann", (0, 1), None), ("dee", "eve", (0, 1), None)):
            self.check((FIELD[0], (link,), "ann"), False)
            self.check((FIELD[0], (LINK, link), "ann"), False)
            self.check((FIELD[0], (link, LINK), "ann"), False)
        self.check((FIELD[0], (("ann", "ann", (0, 1), None),), "ann"), False)
        self.check((FIELD[0], (("ann", "bo", (2, 1), (1, 1)),), "ann"), False)
        self.check((FIELD[0], (LINK, LINK, LINK), "ann"), True)

    def test_the_source(self):
        for source in ("bo", "cy", "dee", "a", "", "ANN", None, True, 0, ["ann"], ("ann",), ANN, []):
            self.check((FIELD[0], FIELD[1], source), False)
        self.check(((("ann", (1, 1), (2, 1)), BO), (), "ann"), False)
        self.check(((("ann", (1, 2), (1, 1)), BO), (), "ann"), False)
        still = ("bo", (1, 1), (1, 1))
        self.check(((ANN, still), (), "ann"), True)
        self.check(((ANN, still), (), "bo"), True)
        self.check(((), (), "ann"), False)
        self.check(((), (), None), False)

    def test_a_hundred_houses(self):
        names = [one + other for one in "abcdefghij" for other in "klmnopqrst"]
        houses = tuple([(name, (1, 1), (1, 1)) for name in names])
        links = tuple([(one, other, (0, 1), None) for one, other in zip(names, names[1:])])
        self.check((houses, links, names[77]), True)
        self.check((houses[:50] + houses[51:], links, names[77]), False)
        self.check((houses[:50] + houses[49:], links, names[77]), False)
        self.check((houses[::-1], links, names[77]), False)

    def test_other_shapes(self):
        self.check(list(FIELD), False)
        self.check(FIELD[:2], False)
        self.check(FIELD + ((),), False)
        self.check((FIELD[1], FIELD[0], FIELD[2]), False)
        for thing in odd_things():
            self.check(thing, False)
            self.check((thing, FIELD[1], "ann"), False)
            self.check((FIELD[0], thing, "ann"), thing == () and type(thing) is tuple)
            self.check((FIELD[0], FIELD[1], thing), thing == "ann")
            self.check((FIELD[0] + (thing,), FIELD[1], "ann"), False)
            self.check((FIELD[0], FIELD[1] + (thing,), "ann"), thing == ("ann", "bo", (0, 1), None))

    def test_bent_at_any_place(self):
        field = ((ANN, BO), (LINK,), "ann")
        for thing in bent(field):
            # Without its last LINK it is a FIELD still, and most may be None.
            whole = thing in (((ANN, BO), (), "ann"), ((ANN, BO), (LINK[:3] + (None,),), "ann"))
            self.check(thing, whole)

    def test_by_name(self):
        self.assertIs(is_field(thing=FIELD), True)


if __name__ == "__main__":
    unittest.main()
