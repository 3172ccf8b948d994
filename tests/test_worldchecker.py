"""[14]: WORLDS that FIT, looked at."""

import random
import unittest
from fractions import Fraction

from ledclocks.errors import NoPaper
from ledclocks.ringfinding import world_or_ring
from ledclocks.worldchecker import lets_world
from tests.things import (bent, bent_twice, number_of, odd_things, oracle_bars, pair_of, random_field, refusal_of,
                          true_history, wild_history, world_of)

FIELD = ((("ann", (1, 1), (1, 1)), ("bo", (1, 2), (3, 2)), ("cy", (2, 3), (2, 1))),
         (("ann", "bo", (1, 1), (3, 1)), ("ann", "bo", (2, 1), None), ("bo", "ann", (1, 2), (5, 2))), "ann")
MARK = ("mark",)
EVENTS = (("ann", (5, 1), ("send", 0)), ("bo", (2, 1), ("hear", 0)), ("bo", (5, 1), MARK), ("ann", (9, 1), MARK))
HISTORY = (FIELD, EVENTS)
WORLD = ((0, 1), (2, 1), (5, 1), (4, 1))


def plain_fraction(thing):
    if type(thing) is not tuple or len(thing) != 2 or not type(thing[0]) is type(thing[1]) is int or thing[1] <= 0:
        return False
    return Fraction(*thing).denominator == thing[1]


def oracle(history, thing):
    """How many EVENTS there are, or the word and the place by [14]."""
    if type(thing) is not tuple or not all([plain_fraction(each) for each in thing]):
        return ("shape", -1)
    if len(thing) != len(history[1]):
        return ("many", -1)
    number = oracle_bars(history, thing)
    return len(history[1]) if number is None else ("step", number)


class TestLetsWorld(unittest.TestCase):
    def check(self, history, thing):
        wanted = oracle(history, thing)
        if isinstance(wanted, int):
            told = lets_world(history, thing)
            self.assertEqual((told, type(told)), (wanted, int))
            return "fits"
        self.assertEqual(repr(refusal_of(lets_world, history, thing)), repr((NoPaper,) + wanted), thing)
        return wanted[0]

    def refused(self, thing, word, at):
        self.assertEqual(repr(refusal_of(lets_world, HISTORY, thing)), repr((NoPaper, word, at)))

    def test_how_many_events_there_are(self):
        self.assertEqual(repr(lets_world(HISTORY, WORLD)), "4")
        self.assertEqual(repr(lets_world((FIELD, ()), ())), "0")
        self.assertEqual(repr(lets_world((FIELD, EVENTS[:1]), ((-7, 3),))), "1")

    def test_each_word(self):
        for thing in (list(WORLD), None, 4, "", (0, 2, 5, 4), WORLD[:3] + ((2, 2),), WORLD[:3] + ((4, True),),
                      WORLD[:3] + ([4, 1],), WORLD[:3] + (None,), (WORLD,)):
            self.refused(thing, "shape", -1)
        for thing in ((), WORLD[:3], WORLD + ((9, 1),), WORLD + WORLD):
            self.refused(thing, "many", -1)
        for thing, number in ((((0, 1), (4, 1), (7, 1), (4, 1)), 0), (((0, 1), (1, 2), (4, 1), (4, 1)), 1),
                              (((0, 1), (2, 1), (9, 1), (4, 1)), 2), (((0, 1), (2, 1), (3, 1), (4, 1)), 3),
                              (((0, 1), (2, 1), (5, 1), (5, 1)), 4), (((0, 1), (2, 1), (5, 1), (3, 1)), 5)):
            self.refused(thing, "step", number)

    def test_of_several_the_first_one(self):
        self.refused(WORLD + ((2, 2),), "shape", -1)
        self.refused(((0, 1), (4, 1), (True, 1)), "shape", -1)
        self.refused(((0, 1), (4, 1), (99, 1)), "many", -1)
        self.refused(((0, 1), (4, 1), (99, 1), (99, 1)), "step", 0)
        self.refused(((0, 1), (2, 1), (99, 1), (99, 1)), "step", 2)

    def test_odd_things(self):
        for thing in odd_things():
            self.check(HISTORY, thing)
            self.check((FIELD, ()), thing)
            self.check((FIELD, EVENTS[:1]), (thing,))

    def test_spoilt_at_every_place_once_and_twice(self):
        rng = random.Random(14)
        for trial in range(12):
            history, truth = true_history(rng, many=10)
            world = world_of(truth)
            self.assertEqual(self.check(history, world), "fits")
            for thing in list(bent(world)) + list(bent_twice(rng, world, 20)):
                self.assertNotEqual(self.check(history, thing), "fits")

    def test_by_other_times(self):
        rng = random.Random(15)
        words = []
        for trial in range(60):
            history, truth = true_history(rng, random_field(rng, houses=3, links=6), 20)
            for turn in range(8):
                other = list(truth)
                for spoil in range(rng.randint(1, 2)):
                    other[rng.randrange(len(other))] += Fraction(rng.randint(-5, 5), rng.randint(1, 30))
                words.append(self.check(history, world_of(other)))
        self.assertGreater(min(words.count("fits"), words.count("step")), 60)

    def test_worlds_that_are_told(self):
        rng = random.Random(16)
        seen = 0
        for trial in range(60):
            history = wild_history(rng, many=rng.randint(0, 10))
            kind, told = world_or_ring(history)
            if kind == "world":
                self.assertEqual(lets_world(history, told), len(history[1]))
                seen += 1
        self.assertGreater(seen, 20)

    def test_no_world_where_a_ring_bars(self):
        events = (("ann", (0, 1), ("send", 0)), ("bo", (0, 1), ("hear", 0)), ("bo", (0, 1), ("send", 2)),
                  ("ann", (1, 1), ("hear", 2)))
        rng = random.Random(17)
        for trial in range(300):
            thing = tuple([pair_of(Fraction(rng.randint(-4, 4), rng.randint(1, 4))) for event in events])
            self.assertEqual(refusal_of(lets_world, (FIELD, events), thing)[1], "step")

    def test_by_name(self):
        self.assertEqual(lets_world(thing=WORLD, history=HISTORY), 4)
        self.assertEqual(number_of(WORLD[1]), 2)


if __name__ == "__main__":
    unittest.main()
