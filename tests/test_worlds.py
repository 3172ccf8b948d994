"""[4], [6], [14], [15], [16]: WORLDS, what bars them, SOURCE TIMES."""

import random
import unittest
from fractions import Fraction

from ledclocks.worlds import is_world, source_times, world_bars
from tests.things import (bent, number_of, odd_things, oracle_bars, pair_of, random_field, true_history, wild_history,
                          world_of)

FIELD = ((("ann", (1, 1), (1, 1)), ("bo", (1, 2), (3, 2)), ("cy", (2, 3), (2, 1))),
         (("ann", "bo", (1, 1), (3, 1)), ("ann", "bo", (2, 1), None), ("bo", "ann", (1, 2), (5, 2))), "ann")
MARK = ("mark",)
EVENTS = (("ann", (5, 1), ("send", 0)), ("bo", (2, 1), ("hear", 0)), ("bo", (5, 1), MARK), ("ann", (9, 1), MARK))
HISTORY = (FIELD, EVENTS)
# Its STEPS: 0 and 1 a letter's most and least, 2 and 3 bo's slow and fast, 4 and 5 those of the SOURCE.
WORLD = ((0, 1), (2, 1), (5, 1), (4, 1))


def true_ones(seed, many=60):
    """HISTORIES that come of true times, and the WORLDS of these."""
    rng = random.Random(seed)
    rows = [true_history(rng) for trial in range(many)]
    rows += [true_history(rng, random_field(rng, houses=3, links=6), 25) for trial in range(many // 2)]
    return [(history, world_of(truth)) for history, truth in rows]


def moved(world, by):
    return tuple([pair_of(number_of(moment) + by) for moment in world])


class TestIsWorld(unittest.TestCase):
    def told(self, history, thing, truth):
        self.assertIs(is_world(history, thing), truth, thing)

    def test_that_fit_or_not(self):
        self.told(HISTORY, WORLD, True)
        self.told(HISTORY, ((0, 1),) * 4, True)
        self.told(HISTORY, ((-7, 3), (10 ** 59, 1), (1, 10 ** 59), (0, 1)), True)

    def test_too_few_and_too_many(self):
        for many in (0, 1, 2, 3, 5, 6):
            self.told(HISTORY, ((0, 1),) * many, False)

    def test_of_no_events(self):
        self.told((FIELD, ()), (), True)
        self.told((FIELD, ()), ((0, 1),), False)
        self.told((FIELD, ()), [], False)
        self.told((FIELD, ()), None, False)

    def test_odd_things(self):
        for thing in odd_things():
            self.told(HISTORY, thing, False)
            self.told((FIELD, EVENTS[:1]), (thing,), False)
            self.told((FIELD, EVENTS[:2]), ((0, 1), thing), False)

    def test_bent_at_any_depth(self):
        for thing in bent(WORLD):
            self.told(HISTORY, thing, False)

    def test_what_is_no_fraction(self):
        for each in ((2, 2), (0, 2), (1, 0), (1, -1), (True, 1), (0, True), (1, False), [0, 1], (0, 1, 1), (0,), 0,
                     ("0", 1), (0, None), (6, 4), (-3, 9)):
            self.told(HISTORY, WORLD[:2] + (each,) + WORLD[3:], False)


class TestWorldBars(unittest.TestCase):
    def test_by_each_kind_of_step(self):
        for world, number in ((WORLD, None), (((0, 1), (4, 1), (7, 1), (4, 1)), 0),
                              (((0, 1), (3, 1), (6, 1), (4, 1)), None),
                              (((0, 1), (1, 2), (4, 1), (4, 1)), 1), (((0, 1), (1, 1), (4, 1), (4, 1)), None),
                              (((0, 1), (2, 1), (9, 1), (4, 1)), 2), (((0, 1), (2, 1), (8, 1), (4, 1)), None),
                              (((0, 1), (2, 1), (3, 1), (4, 1)), 3), (((0, 1), (2, 1), (4, 1), (4, 1)), None),
                              (((0, 1), (2, 1), (5, 1), (5, 1)), 4), (((0, 1), (2, 1), (5, 1), (3, 1)), 5)):
            told = world_bars(HISTORY, world)
            self.assertEqual((told, type(told)), (number, type(number)), world)

    def test_the_first_one(self):
        self.assertEqual(world_bars(HISTORY, ((0, 1), (4, 1), (99, 1), (99, 1))), 0)
        self.assertEqual(world_bars(HISTORY, ((0, 1), (2, 1), (99, 1), (99, 1))), 2)
        self.assertEqual(world_bars(HISTORY, ((0, 1), (2, 1), (2, 1), (99, 1))), 3)

    def test_by_ever_so_little(self):
        for least, number in ((10 ** 30, 0), (-(10 ** 30), None)):
            late = pair_of(3 + Fraction(1, least))
            self.assertEqual(world_bars(HISTORY, ((0, 1), late, pair_of(number_of(late) + 3), (4, 1))), number)

    def test_a_link_without_most_bars_no_late_one(self):
        history = (FIELD, (("ann", (0, 1), ("send", 1)), ("bo", (0, 1), ("hear", 0))))
        self.assertIsNone(world_bars(history, ((0, 1), (10 ** 40, 1))))
        self.assertIsNone(world_bars(history, ((0, 1), (2, 1))))
        self.assertEqual(world_bars(history, ((0, 1), (1, 1))), 0)

    def test_of_no_events_and_of_one(self):
        self.assertIsNone(world_bars((FIELD, ()), ()))
        self.assertIsNone(world_bars((FIELD, EVENTS[:1]), ((-99, 7),)))

    def test_by_the_oracle(self):
        rng = random.Random(14)
        seen = []
        for history, world in true_ones(141):
            self.assertIsNone(world_bars(history, world))
            for turn in range(8 if world else 0):
                k = rng.randrange(len(world))
                spoilt = number_of(world[k]) + Fraction(rng.randint(-9, 9), rng.randint(1, 40))
                other = world[:k] + (pair_of(spoilt),) + world[k + 1:]
                wanted = oracle_bars(history, other)
                self.assertEqual(world_bars(history, other), wanted)
                seen.append(wanted is None)
        self.assertGreater(min(seen.count(True), seen.count(False)), 100)

    def test_by_the_oracle_of_any_stamps(self):
        rng = random.Random(142)
        for trial in range(60):
            history = wild_history(rng, plain=trial % 2 == 0)
            world = tuple([pair_of(Fraction(rng.randint(-9, 9), rng.randint(1, 3))) for event in history[1]])
            self.assertEqual(world_bars(history, world), oracle_bars(history, world))


class TestSourceTimes(unittest.TestCase):
    def test_by_hand(self):
        told = source_times(HISTORY, WORLD)
        self.assertEqual((told, type(told)), (((5, 1), (7, 1), (10, 1), (9, 1)), tuple))
        self.assertEqual([type(each) for each in told], [tuple] * 4)

    def test_ahead_of_the_first_event_of_the_source(self):
        history = (FIELD, (("bo", (0, 1), MARK), ("cy", (7, 3), MARK), ("ann", (5, 2), MARK)))
        self.assertEqual(source_times(history, ((-1, 3), (9, 1), (1, 1))), ((7, 6), (21, 2), (5, 2)))

    def test_without_events_of_the_source(self):
        history = (FIELD, (("bo", (0, 1), MARK), ("cy", (7, 3), MARK)))
        self.assertEqual(source_times(history, ((0, 1), (5, 1))), (None, None))
        self.assertEqual(source_times((FIELD, ()), ()), ())

    def test_another_source(self):
        field = ((("ann", (1, 1), (1, 1)), ("bo", (1, 1), (1, 1))), (), "bo")
        history = (field, (("ann", (3, 1), MARK), ("bo", (30, 1), MARK)))
        self.assertEqual(source_times(history, ((1, 1), (2, 1))), ((29, 1), (30, 1)))

    def test_by_each_event_of_the_source_the_same(self):
        seen = 0
        for history, world in true_ones(15):
            told = source_times(history, world)
            self.assertEqual(len(told), len(world))
            marks = [k for k, event in enumerate(history[1]) if event[0] == history[0][2]]
            if not marks:
                self.assertEqual(told, (None,) * len(world))
            for mark in marks:
                stamp = number_of(history[1][mark][1])
                wanted = [stamp + number_of(moment) - number_of(world[mark]) for moment in world]
                self.assertEqual(told, world_of(wanted))
                self.assertEqual(told[mark], history[1][mark][1])
                seen += 1
        self.assertGreater(seen, 200)

    def test_by_name(self):
        self.assertIs(is_world(thing=WORLD, history=HISTORY), True)
        self.assertIsNone(world_bars(world=WORLD, history=HISTORY))
        self.assertEqual(source_times(world=WORLD, history=HISTORY)[1], (7, 1))


class TestWhatFollows(unittest.TestCase):
    def test_with_each_time_greater_by_as_much(self):
        for history, world in true_ones(16):
            for by in (Fraction(7, 3), Fraction(-100), Fraction(1, 10 ** 20)):
                other = moved(world, by)
                self.assertTrue(is_world(history, other))
                self.assertIsNone(world_bars(history, other))
                self.assertEqual(source_times(history, other), source_times(history, world))

    def test_a_world_that_is_barred_stays_barred(self):
        world = ((0, 1), (2, 1), (9, 1), (4, 1))
        for by in (1, -5, Fraction(1, 3)):
            self.assertEqual(world_bars(HISTORY, moved(world, by)), 2)

    def test_with_an_event_fewer(self):
        for history, world in true_ones(17, 30):
            for many in range(len(world), -1, -1):
                self.assertIsNone(world_bars((history[0], history[1][:many]), world[:many]))

    def test_between_two_that_fit(self):
        rng = random.Random(18)
        seen = 0
        for history, world in true_ones(18, 30):
            other = self.another(rng, history, world)
            for part in (Fraction(0), Fraction(1, 2), Fraction(1, 3), Fraction(99, 100), Fraction(1)):
                between = world_of([number_of(a) + part * (number_of(b) - number_of(a)) for a, b in zip(world, other)])
                self.assertIsNone(world_bars(history, between))
            seen += moved(world, 0) != other
        self.assertGreater(seen, 20)

    def another(self, rng, history, world):
        """Another WORLD that FITS: times turned one by one, where that is let."""
        other = world
        for turn in range(40 if world else 0):
            k = rng.randrange(len(world))
            spoilt = number_of(other[k]) + Fraction(rng.randint(-9, 9), rng.randint(1, 9))
            next_one = other[:k] + (pair_of(spoilt),) + other[k + 1:]
            if world_bars(history, next_one) is None:
                other = next_one
        return other


if __name__ == "__main__":
    unittest.main()
