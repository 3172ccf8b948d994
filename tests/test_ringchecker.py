"""[5], [27], [28], [29]: RINGS looked at."""

import itertools
import random
import unittest
from fractions import Fraction

from ledclocks.errors import NoPaper
from ledclocks.ringchecker import lets_ring
from ledclocks.ringfinding import ring_of, world_or_ring
from tests.things import (bent, bent_twice, number_of, odd_things, oracle_reach, oracle_steps, random_field,
                          refusal_of, told_of, true_history, wild_history)

FIELD = ((("ann", (1, 1), (1, 1)), ("bo", (1, 2), (3, 2)), ("cy", (2, 3), (2, 1))),
         (("ann", "bo", (1, 1), (3, 1)), ("ann", "bo", (2, 1), None), ("bo", "ann", (1, 2), (5, 2))), "ann")
MARK = ("mark",)
# Letters there and back take 3/2 at least, and ann's clock went on by 1 in the while.
EVENTS = (("ann", (0, 1), ("send", 0)), ("bo", (0, 1), ("hear", 0)), ("bo", (0, 1), ("send", 2)),
          ("ann", (1, 1), ("hear", 2)))
# Its STEPS: 0 (0, 1, 3), 1 (1, 0, -1), 2 (1, 2, 0), 3 (2, 1, 0), 4 (0, 3, 1), 5 (3, 0, -1), 6 (2, 3, 5/2),
# 7 (3, 2, -1/2).
HISTORY = (FIELD, EVENTS)
RING = (4, 7, 3, 1)


def oracle(history, thing):
    """The SUM, or the word and the place by [27]."""
    if type(thing) is not tuple or not thing or not all([type(number) is int for number in thing]):
        return ("shape", -1)
    steps = oracle_steps(history)
    for k, number in enumerate(thing):
        if number not in range(len(steps)):
            return ("step", k)
    for k, number in enumerate(thing):
        if steps[number][0] != steps[thing[k - 1]][1]:
            return ("from", k)
    total = sum([number_of(steps[number][2]) for number in thing], Fraction(0))
    return told_of(total) if total < 0 else ("sum", -1)


def some_histories(seed, many=40):
    rng = random.Random(seed)
    rows = [wild_history(rng, random_field(rng, houses=3, links=6), 14) for trial in range(many)]
    return rows + [wild_history(rng, plain=True) for trial in range(many)]


def turned(ring, k):
    return ring[k:] + ring[:k]


class TestLetsRing(unittest.TestCase):
    def check(self, history, thing):
        wanted = oracle(history, thing)
        if isinstance(wanted[0], int):
            told = lets_ring(history, thing)
            self.assertEqual((repr(told), type(told)), (repr(wanted), tuple))
            return "fits"
        self.assertEqual(repr(refusal_of(lets_ring, history, thing)), repr((NoPaper,) + wanted), thing)
        return wanted[0]

    def refused(self, thing, word, at):
        self.assertEqual(repr(refusal_of(lets_ring, HISTORY, thing)), repr((NoPaper, word, at)))

    def test_by_hand_begun_elsewhere_gone_round_twice(self):
        for k in range(4):
            self.assertEqual(lets_ring(HISTORY, turned(RING, k)), (-1, 2))
            self.assertEqual(lets_ring(HISTORY, turned(RING + RING, k)), (-1, 1))
            self.assertEqual(lets_ring(HISTORY, turned(RING * 7, k)), (-7, 2))
        self.assertEqual(lets_ring(HISTORY, (4, 5) + RING), (-1, 2))
        self.assertIs(type(lets_ring(HISTORY, RING)), tuple)

    def test_each_word(self):
        for thing in ((), [], list(RING), None, 4, "4", (4, 7, 3, True), (4, 7, 3, None), ((4, 7, 3, 1),), (4, "7")):
            self.refused(thing, "shape", -1)
        for thing, k in (((8,), 0), ((-1,), 0), ((4, 7, 3, 8), 3), ((4, 9, 10, 1), 1), (RING + (10 ** 40,), 4)):
            self.refused(thing, "step", k)
        for thing, k in (((4,), 0), ((4, 7), 0), ((4, 7, 3), 0), ((7, 4, 3, 1), 0), ((4, 3, 7, 1), 1),
                         ((4, 7, 1, 3), 0), ((4, 7, 2, 1), 2), ((4, 7, 3, 3, 1), 3), ((7, 3, 1), 0),
                         ((4, 4), 0), (RING + (4,), 0)):
            self.refused(thing, "from", k)
        for thing in ((4, 5), (5, 4), (0, 1), (2, 3), (3, 2), (0, 2, 6, 5), (4, 5) * 3):
            self.refused(thing, "sum", -1)

    def test_of_several_the_first_one(self):
        self.refused((8, 4, False), "shape", -1)
        self.refused((4, 4, 8), "step", 2)
        self.refused((4, 8, 9), "step", 1)
        self.refused((0, 0, 0), "from", 0)
        self.refused((0, 2, 2, 6, 5), "from", 2)

    def test_a_sum_of_nought_or_above(self):
        for stamp, word in (((3, 2), "sum"), ((2, 1), "sum"), ((149, 100), "fits"), ((1, 1), "fits")):
            history = (FIELD, EVENTS[:3] + (("ann", stamp, ("hear", 2)),))
            self.assertEqual(self.check(history, RING), word)

    def test_of_no_events(self):
        self.assertEqual(refusal_of(lets_ring, (FIELD, ()), (0,)), (NoPaper, "step", 0))
        self.assertEqual(refusal_of(lets_ring, (FIELD, ()), ()), (NoPaper, "shape", -1))

    def test_odd_things(self):
        for thing in odd_things():
            self.check(HISTORY, thing)
            self.check((FIELD, ()), thing)

    def test_all_short_rows(self):
        words = []
        for many in range(5):
            for thing in itertools.product(range(8), repeat=many):
                words.append(self.check(HISTORY, thing))
        for word in ("fits", "from", "sum"):
            self.assertGreater(words.count(word), 3, word)

    def test_rings_that_are_told_are_let_by(self):
        rng = random.Random(27)
        rings = 0
        words = []
        for history in some_histories(271):
            ring = ring_of(history)
            kind, told = world_or_ring(history)
            self.assertEqual(ring is None, kind == "world")
            self.assertEqual(ring is None, oracle_reach(history) is not None)
            if ring is None:
                continue
            rings += 1
            for each in (ring, told, ring + ring, turned(ring, rng.randrange(len(ring)))):
                self.assertEqual(self.check(history, each), "fits")
            steps = len(oracle_steps(history))
            for thing in list(bent(ring)) + list(bent_twice(rng, ring, 6)):
                words.append(self.check(history, thing))
            for turn in range(20):
                words.append(self.check(history, self.other(rng, ring, steps)))
        self.assertGreater(rings, 25)
        for word in ("shape", "step", "from"):
            self.assertGreater(words.count(word), 20, word)

    def other(self, rng, ring, steps):
        rows = list(ring)
        at = rng.randrange(len(rows))
        choice = rng.random()
        if choice < 0.4:
            rows.insert(at, rng.randint(-1, steps))
        elif choice < 0.7:
            rows[at] = rng.randint(-1, steps)
        elif choice < 0.85:
            rows.pop(at)
        else:
            rows[at], rows[0] = rows[0], rows[at]
        return tuple(rows)

    def test_none_is_let_by_where_a_world_fits(self):
        rng = random.Random(29)
        closed = 0
        for trial in range(30):
            history = true_history(rng, random_field(rng, houses=3, links=6), 14)[0]
            steps = oracle_steps(history)
            for start in range(len(steps)):
                ring, at = [start], steps[start][1]
                while at != steps[start][0] and len(ring) < 30:
                    ring.append(rng.choice([k for k, step in enumerate(steps) if step[0] == at] or [start]))
                    at = steps[ring[-1]][1]
                word = self.check(history, tuple(ring))
                self.assertIn(word, ("from", "sum"))
                closed += word == "sum"
        self.assertGreater(closed, 100)

    def test_by_name(self):
        self.assertEqual(lets_ring(thing=RING, history=HISTORY), (-1, 2))


if __name__ == "__main__":
    unittest.main()
