"""[31], [32], [34]: WORLDS that reach the ends of STRETCHES."""

import inspect
import random
import unittest
from fractions import Fraction

from ledclocks import worldreaching
from ledclocks.errors import NoNumber, NoWorld
from ledclocks.hearing import part_heard
from ledclocks.sourcing import by_heard
from ledclocks.stretching import stretch_of
from ledclocks.worldchecker import lets_world
from ledclocks.worldreaching import FAR, high_world, low_world
from ledclocks.worlds import source_times
from tests.things import (bars, number_of, oracle_bars, oracle_reach, random_field, refusal_of, true_history,
                          wild_history)

FIELD = ((("ann", (1, 1), (1, 1)), ("bo", (1, 2), (3, 2)), ("cy", (2, 3), (2, 1))),
         (("ann", "bo", (1, 1), (3, 1)), ("ann", "bo", (2, 1), None), ("bo", "ann", (1, 2), (5, 2))), "ann")
MARK = ("mark",)
EVENTS = (("ann", (0, 1), ("send", 0)), ("bo", (1, 1), ("hear", 0)), ("bo", (4, 1), MARK), ("cy", (0, 1), MARK),
          ("ann", (5, 1), ("send", 1)), ("cy", (9, 1), MARK), ("bo", (6, 1), ("hear", 4)))
HISTORY = (FIELD, EVENTS)
BARRED = (FIELD, (("cy", (0, 1), MARK), ("ann", (0, 1), ("send", 0)), ("bo", (0, 1), ("hear", 1)),
                  ("bo", (0, 1), ("send", 2)), ("ann", (1, 1), ("hear", 3))))


def some_histories(seed, many=20):
    """HISTORIES that some WORLD FITS, in many of which no WAY comes to some EVENTS."""
    rng = random.Random(seed)
    rows = [true_history(rng, many=12)[0] for trial in range(many)]
    rows += [true_history(rng, random_field(rng, houses=4, links=8), 14)[0] for trial in range(many)]
    rows += [wild_history(rng, many=rng.randint(1, 8)) for trial in range(3 * many)]
    return [history for history in rows if history[1] and oracle_reach(history) is not None]


class TestReached(unittest.TestCase):
    def apart(self, history, world, x, y):
        """How much y's time is above x's in a WORLD that FITS."""
        self.assertIs(type(world), tuple)
        self.assertIsNone(oracle_bars(history, world))
        self.assertEqual(lets_world(history, world), len(history[1]))
        return number_of(world[y]) - number_of(world[x])

    def check(self, history, x, y, table, least, **named):
        high = self.apart(history, high_world(history, x, y, **named), x, y)
        low = self.apart(history, low_world(history, x, y, **named), x, y)
        if table[x][y] is None:
            self.assertGreaterEqual(high, least)
        else:
            self.assertEqual(high, table[x][y])
        if table[y][x] is None:
            self.assertLessEqual(low, -least)
        else:
            self.assertEqual(low, -table[y][x])
        return (table[x][y] is None) + (table[y][x] is None)

    def test_by_hand(self):
        self.assertEqual(self.apart(HISTORY, high_world(HISTORY, 0, 1), 0, 1), 3)
        self.assertEqual(self.apart(HISTORY, low_world(HISTORY, 0, 1), 0, 1), 1)
        self.assertEqual(self.apart(HISTORY, high_world(HISTORY, 1, 2), 1, 2), 6)
        self.assertEqual(self.apart(HISTORY, low_world(HISTORY, 1, 2), 1, 2), 2)
        self.assertEqual(self.apart(HISTORY, high_world(HISTORY, 0, 4), 0, 4), 5)
        self.assertEqual(self.apart(HISTORY, low_world(HISTORY, 0, 4), 0, 4), 5)

    def test_as_far_as_told_where_there_is_no_end(self):
        for x, y in ((0, 3), (3, 0), (2, 5), (5, 6), (3, 4)):
            self.assertGreaterEqual(self.apart(HISTORY, high_world(HISTORY, x, y), x, y), 1000)
            self.assertLessEqual(self.apart(HISTORY, low_world(HISTORY, x, y), x, y), -1000)
            for far in ((0, 1), (1, 3), (10 ** 40, 1), (10 ** 9, 7)):
                self.assertGreaterEqual(self.apart(HISTORY, high_world(HISTORY, x, y, far=far), x, y), number_of(far))
                self.assertLessEqual(self.apart(HISTORY, low_world(HISTORY, x, y, far=far), x, y), -number_of(far))

    def test_where_one_end_alone_is_there(self):
        history = (FIELD, (("ann", (0, 1), ("send", 1)), ("bo", (0, 1), ("hear", 0))))
        self.assertEqual(stretch_of(history, 0, 1), ((2, 1), None))
        self.assertGreaterEqual(self.apart(history, high_world(history, 0, 1), 0, 1), 1000)
        self.assertEqual(self.apart(history, low_world(history, 0, 1), 0, 1), 2)
        self.assertEqual(self.apart(history, high_world(history, 1, 0), 1, 0), -2)
        self.assertLessEqual(self.apart(history, low_world(history, 1, 0), 1, 0), -1000)
        self.assertGreaterEqual(self.apart(history, high_world(history, 0, 1, far=(0, 1)), 0, 1), 2)

    def test_of_one_and_itself(self):
        for x in range(len(EVENTS)):
            self.assertEqual(self.apart(HISTORY, high_world(HISTORY, x, x, far=(99, 1)), x, x), 0)
            self.assertEqual(self.apart(HISTORY, low_world(HISTORY, x, x, far=(99, 1)), x, x), 0)

    def test_by_the_oracle(self):
        rng = random.Random(31)
        endless = []
        for history in some_histories(311):
            table = oracle_reach(history)
            many = len(history[1])
            for x in range(many):
                for y in rng.sample(range(many), min(many, 4)):
                    far = Fraction(rng.choice((0, 1, 7, 10 ** 20)), rng.choice((1, 3)))
                    named = {"far": (far.numerator, far.denominator)} if rng.random() < 0.7 else {}
                    endless.append(self.check(history, x, y, table, far if named else 1000, **named))
        for ends in (0, 1, 2):
            self.assertGreater(endless.count(ends), 25, ends)

    def test_so_the_stretch_is_the_narrowest(self):
        for history in some_histories(32, 8):
            for x in range(len(history[1])):
                y = (x * 5 + 2) % len(history[1])
                low, high = stretch_of(history, x, y)
                if low is not None:
                    self.assertEqual(self.apart(history, low_world(history, x, y), x, y), number_of(low))
                if high is not None:
                    self.assertEqual(self.apart(history, high_world(history, x, y), x, y), number_of(high))

    def test_worlds_of_the_part_reach_what_was_heard(self):
        reached = 0
        for history in some_histories(34, 10):
            for event in range(len(history[1])):
                part = part_heard(history, event)
                last = len(part[1]) - 1
                marks = [k for k, each in enumerate(part[1]) if each[0] == part[0][2]]
                pair = by_heard(history, event)
                for world, end in (((low_world, pair[0]), (high_world, pair[1])) if marks else ()):
                    told = world(part, marks[0], last)
                    if end is not None:
                        self.assertEqual(source_times(part, told)[last], end)
                        reached += 1
        self.assertGreater(reached, 100)

    def test_far_left_out(self):
        self.assertEqual((FAR, type(FAR)), ((1000, 1), tuple))
        self.assertEqual(worldreaching.FAR, (1000, 1))
        for call in (high_world, low_world):
            self.assertEqual(inspect.signature(call).parameters["far"].default, (1000, 1))
            self.assertIsNone(oracle_bars(HISTORY, call(far=(5, 1), y=3, x=0, history=HISTORY)))
            with self.assertRaises(TypeError):
                call(HISTORY, 0, 3, (5, 1))

    def test_nothing_handed_in_is_changed_and_nothing_hangs_on_what_was_asked(self):
        for x, y in ((0, 3), (0, 1)):
            high_world(HISTORY, x, y)
            self.assertEqual(self.apart(HISTORY, low_world(HISTORY, 0, 1), 0, 1), 1)
        self.assertEqual(HISTORY, (FIELD, EVENTS))


class TestRefusals(unittest.TestCase):
    def test_no_such_event_ahead_of_no_world(self):
        for call in (high_world, low_world):
            for history in (HISTORY, BARRED, (FIELD, ())):
                many = len(history[1])
                for number in (many, -1, 10 ** 50, -many - 1):
                    if many:
                        self.assertEqual(refusal_of(call, history, 0, number), (NoNumber, number))
                        self.assertEqual(refusal_of(call, history, number, 0), (NoNumber, number))
                    self.assertEqual(refusal_of(call, history, number, 77), (NoNumber, number))
                    self.assertEqual(refusal_of(call, history, 77, number, far=(0, 1)), (NoNumber, 77))

    def test_no_world(self):
        for call in (high_world, low_world):
            for x in range(5):
                for y in range(5):
                    refused = refusal_of(call, BARRED, x, y)
                    self.assertIs(refused[0], NoWorld)
                    self.assertTrue(bars(BARRED, refused[1]))

    def test_no_world_at_random(self):
        rng = random.Random(33)
        seen = 0
        for trial in range(60):
            history = wild_history(rng, random_field(rng, houses=3, links=6), 14)
            if oracle_reach(history) is not None:
                continue
            seen += 1
            for call in (high_world, low_world):
                refused = refusal_of(call, history, rng.randrange(14), rng.randrange(14), far=(3, 1))
                self.assertIs(refused[0], NoWorld)
                self.assertTrue(bars(history, refused[1]))
        self.assertGreater(seen, 20)


if __name__ == "__main__":
    unittest.main()
