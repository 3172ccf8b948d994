"""[5], [24]: WAYS looked at."""

import itertools
import random
import unittest
from fractions import Fraction

from ledclocks.errors import NoNumber, NoPaper
from ledclocks.reaching import least_way, reach
from ledclocks.ringfinding import ring_of
from ledclocks.waychecker import lets_way
from tests.things import (bent, bent_twice, number_of, odd_things, oracle_steps, random_field, refusal_of, told_of,
                          true_history, wild_history)

FIELD = ((("ann", (1, 1), (1, 1)), ("bo", (1, 2), (3, 2)), ("cy", (2, 3), (2, 1))),
         (("ann", "bo", (1, 1), (3, 1)), ("ann", "bo", (2, 1), None), ("bo", "ann", (1, 2), (5, 2))), "ann")
MARK = ("mark",)
EVENTS = (("ann", (5, 1), ("send", 0)), ("bo", (2, 1), ("hear", 0)), ("bo", (5, 1), MARK), ("ann", (9, 1), MARK))
# Its STEPS: 0 (0, 1, 3), 1 (1, 0, -1), 2 (1, 2, 6), 3 (2, 1, -2), 4 (0, 3, 4), 5 (3, 0, -4).
HISTORY = (FIELD, EVENTS)


def oracle(history, x, y, thing):
    """The SUM, or the class and the fields of the refusal by [24]."""
    for number in (x, y):
        if number not in range(len(history[1])):
            return (NoNumber, number)
    if type(thing) is not tuple or not all([type(number) is int for number in thing]):
        return (NoPaper, "shape", -1)
    steps = oracle_steps(history)
    at, total = x, Fraction(0)
    for k, number in enumerate(thing):
        if number not in range(len(steps)):
            return (NoPaper, "step", k)
        if steps[number][0] != at:
            return (NoPaper, "from", k)
        at = steps[number][1]
        total += number_of(steps[number][2])
    return told_of(total) if at == y else (NoPaper, "to", -1)


def random_way(rng, history, x, many):
    """A WAY from x on, of so many STEPS where there are any, and where it comes to."""
    steps = oracle_steps(history)
    way, at = [], x
    for turn in range(many):
        leaving = [number for number, step in enumerate(steps) if step[0] == at]
        if not leaving:
            break
        way.append(rng.choice(leaving))
        at = steps[way[-1]][1]
    return tuple(way), at


def some_histories(seed, many=12):
    rng = random.Random(seed)
    rows = [wild_history(rng, random_field(rng, houses=3, links=6), 14) for trial in range(many)]
    rows += [true_history(rng, random_field(rng, houses=3, links=6), 14)[0] for trial in range(many)]
    return [history for history in rows if history[1]]


class TestLetsWay(unittest.TestCase):
    def check(self, history, x, y, thing):
        wanted = oracle(history, x, y, thing)
        if isinstance(wanted[0], int):
            told = lets_way(history, x, y, thing)
            self.assertEqual((repr(told), type(told)), (repr(wanted), tuple))
            return "fits"
        self.assertEqual(repr(refusal_of(lets_way, history, x, y, thing)), repr(wanted), thing)
        return wanted[1]

    def refused(self, x, y, thing, word, at):
        self.assertEqual(repr(refusal_of(lets_way, HISTORY, x, y, thing)), repr((NoPaper, word, at)))

    def test_by_hand(self):
        for x, y, thing, total in ((0, 0, (), (0, 1)), (3, 3, (), (0, 1)), (0, 1, (0,), (3, 1)), (1, 0, (1,), (-1, 1)),
                                   (0, 2, (0, 2), (9, 1)), (2, 0, (3, 1), (-3, 1)), (2, 3, (3, 1, 4), (1, 1)),
                                   (0, 0, (0, 1), (2, 1)), (0, 0, (0, 1) * 50, (100, 1)), (0, 1, (0, 1, 0), (5, 1)),
                                   (3, 3, (5, 4), (0, 1))):
            told = lets_way(HISTORY, x, y, thing)
            self.assertEqual((told, type(told)), (total, tuple))

    def test_each_word(self):
        for thing in ([], [0], None, 0, "", (True,), (0, None), ((0,),), (0, "1"), (0, (1,)), (False,)):
            self.refused(0, 1, thing, "shape", -1)
        for thing, k in (((6,), 0), ((-1,), 0), ((0, 6), 1), ((0, 1, -6), 2), ((0, 10 ** 50), 1)):
            self.refused(0, 1, thing, "step", k)
        for thing, k in (((1,), 0), ((2,), 0), ((0, 0), 1), ((0, 4), 1), ((0, 1, 2), 2), ((4, 0), 1)):
            self.refused(0, 1, thing, "from", k)
        for x, y, thing in ((0, 1, ()), (0, 2, (0,)), (0, 0, (0,)), (0, 1, (0, 2)), (1, 0, (2, 3)), (3, 0, (5, 4))):
            self.refused(x, y, thing, "to", -1)

    def test_thing_by_thing(self):
        self.refused(0, 1, (1, 6), "from", 0)
        self.refused(0, 1, (6, 1), "step", 0)
        self.refused(0, 1, (0, 0, 6), "from", 1)
        self.refused(0, 1, (0, 6, 0), "step", 1)
        self.refused(0, 0, (0, 6), "step", 1)
        self.refused(0, 3, (0, 0), "from", 1)
        self.refused(0, 3, (6, True), "shape", -1)

    def test_no_number_ahead_of_all_else(self):
        for thing in ((), (0,), (6,), None, [0], (True,)):
            for number in (4, -1, 10 ** 50, -4):
                self.assertEqual(refusal_of(lets_way, HISTORY, number, 0, thing), (NoNumber, number))
                self.assertEqual(refusal_of(lets_way, HISTORY, 0, number, thing), (NoNumber, number))
                self.assertEqual(refusal_of(lets_way, HISTORY, number, -9, thing), (NoNumber, number))
                self.assertEqual(refusal_of(lets_way, HISTORY, -9, number, thing), (NoNumber, -9))
            self.assertEqual(refusal_of(lets_way, (FIELD, ()), 0, 0, thing), (NoNumber, 0))

    def test_odd_things(self):
        for thing in odd_things():
            for x, y in ((0, 0), (0, 1), (9, 0), (0, 9)):
                self.check(HISTORY, x, y, thing)

    def test_all_short_rows(self):
        words = []
        for many in range(4):
            for thing in itertools.product(range(-1, 7), repeat=many):
                for x, y in ((0, 1), (0, 0), (2, 3)):
                    words.append(self.check(HISTORY, x, y, thing))
        for word in ("fits", "step", "from", "to"):
            self.assertGreater(words.count(word), 5, word)

    def test_least_ways_are_let_by(self):
        seen = 0
        for history in some_histories(241):
            if ring_of(history) is not None:
                continue
            many = len(history[1])
            for x in range(many):
                for y in range(many):
                    way = least_way(history, x, y)
                    if way is not None:
                        self.assertEqual(lets_way(history, x, y, way), reach(history, x, y))
                        seen += len(way) > 1
        self.assertGreater(seen, 500)

    def test_spoilt_at_every_place(self):
        rng = random.Random(24)
        words = []
        for history in some_histories(242):
            steps = len(oracle_steps(history))
            for x in range(len(history[1])):
                way, y = random_way(rng, history, x, rng.randint(0, 7))
                self.assertEqual(self.check(history, x, y, way), "fits")
                for thing in list(bent(way)) + list(bent_twice(rng, way, 5)):
                    words.append(self.check(history, x, y, thing))
                for turn in range(8):
                    words.append(self.check(history, x, y, self.other(rng, way, steps)))
                words.append(self.check(history, x, rng.randrange(len(history[1])), way))
                words.append(self.check(history, rng.randrange(len(history[1])), y, way))
        for word in ("fits", "shape", "step", "from", "to"):
            self.assertGreater(words.count(word), 50, word)

    def other(self, rng, way, steps):
        rows = list(way)
        at = rng.randint(0, len(rows))
        choice = rng.random()
        if choice < 0.4 or not rows:
            rows.insert(at, rng.randint(-1, steps))
        elif choice < 0.7:
            rows[at - 1] = rng.randint(-1, steps)
        else:
            rows.pop(rng.choice((at - 1, -1)))
        return tuple(rows)

    def test_whoever_wrote_it_it_holds_in_worlds_that_fit(self):
        rng = random.Random(25)
        for trial in range(25):
            history, truth = true_history(rng, random_field(rng, houses=3, links=6), 14)
            for x in range(len(truth)):
                way, y = random_way(rng, history, x, rng.randint(0, 20))
                self.assertLessEqual(truth[y], truth[x] + number_of(lets_way(history, x, y, way)))
                self.assertLessEqual(number_of(reach(history, x, y)), number_of(lets_way(history, x, y, way)))

    def test_where_a_ring_bars_too(self):
        events = (("ann", (0, 1), ("send", 0)), ("bo", (0, 1), ("hear", 0)), ("bo", (0, 1), ("send", 2)),
                  ("ann", (1, 1), ("hear", 2)))
        ring = ring_of((FIELD, events))
        start = oracle_steps((FIELD, events))[ring[0]][0]
        self.assertLess(number_of(lets_way((FIELD, events), start, start, ring)), 0)

    def test_by_name(self):
        self.assertEqual(lets_way(thing=(0,), y=1, x=0, history=HISTORY), (3, 1))


if __name__ == "__main__":
    unittest.main()
