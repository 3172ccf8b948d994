"""[4], [5], [28], [29]: a WORLD that FITS, or a RING that bars all."""

import random
import unittest
from fractions import Fraction

from ledclocks.ringfinding import ring_of, world_or_ring
from tests.things import number_of, oracle_steps, pair_of, true_history, wild_history

FIELD = ((("ann", (1, 1), (1, 1)), ("bo", (1, 2), (3, 2)), ("cy", (2, 3), (2, 1))),
         (("ann", "bo", (1, 1), (3, 1)), ("bo", "ann", (1, 1), (2, 1)), ("bo", "cy", (1, 2), None),
          ("cy", "ann", (1, 2), None)), "ann")
MARK = ("mark",)
ASK = (("ann", (0, 1), ("send", 0)), ("bo", (0, 1), ("hear", 0)), ("bo", (0, 1), ("send", 1)))


def has_ring(history):
    """Whether some RING has a SUM below 0: least SUMS between all EVENTS, with Fractions."""
    many = len(history[1])
    sums = [[None] * many for number in range(many)]
    for x, y, w in oracle_steps(history):
        w = number_of(w)
        sums[x][y] = w if sums[x][y] is None else min(sums[x][y], w)
    for middle in range(many):
        for x in range(many):
            for y in range(many):
                if sums[x][middle] is not None and sums[middle][y] is not None:
                    by = sums[x][middle] + sums[middle][y]
                    sums[x][y] = by if sums[x][y] is None else min(sums[x][y], by)
    return any([sums[x][x] is not None and sums[x][x] < 0 for x in range(many)])


class Checked(unittest.TestCase):
    def check_ring(self, history, ring):
        steps = oracle_steps(history)
        self.assertIs(type(ring), tuple)
        self.assertGreater(len(ring), 0)
        for number in ring:
            self.assertIs(type(number), int)
            self.assertIn(number, range(len(steps)))
        for number, ahead in zip(ring, ring[-1:] + ring[:-1]):
            self.assertEqual(steps[number][0], steps[ahead][1], ring)
        self.assertLess(sum([number_of(steps[number][2]) for number in ring]), 0)

    def check_world(self, history, world):
        self.assertIs(type(world), tuple)
        self.assertEqual(len(world), len(history[1]))
        for time in world:
            self.assertEqual([type(time)] + [type(part) for part in time], [tuple, int, int])
            self.assertEqual(pair_of(number_of(time)), time)
        for x, y, w in oracle_steps(history):
            self.assertLessEqual(number_of(world[y]), number_of(world[x]) + number_of(w))

    def check(self, history, ringed):
        """Both tell of the HISTORY what is so, of rings or of none as told."""
        told = world_or_ring(history)
        self.assertEqual((type(told), len(told)), (tuple, 2))
        ring = ring_of(history)
        if ringed:
            self.assertEqual(told[0], "ring")
            self.check_ring(history, told[1])
            self.check_ring(history, ring)
        else:
            self.assertEqual(told[0], "world")
            self.check_world(history, told[1])
            self.assertIsNone(ring)


class TestToldOnes(Checked):
    def test_no_events(self):
        self.assertEqual(world_or_ring((FIELD, ())), ("world", ()))
        self.assertIsNone(ring_of((FIELD, ())))

    def test_one_event_and_houses_that_hear_nothing(self):
        self.check((FIELD, (("bo", (3, 1), MARK),)), False)
        self.check((FIELD, (("bo", (3, 1), MARK), ("ann", (9, 1), MARK), ("bo", (5, 1), MARK))), False)

    def test_an_ask_and_its_answer(self):
        # To and fro takes from 2 to 5 by the SOURCE's clock.
        for stamp, ringed in (((2, 1), False), ((5, 1), False), ((199, 100), True), ((501, 100), True), ((1, 1), True),
                              ((3, 1), False), ((99, 1), True), ((0, 1), True)):
            self.check((FIELD, ASK + (("ann", stamp, ("hear", 2)),)), ringed)

    def test_alone_ahead_or_behind_of_the_ring(self):
        bad = ASK + (("ann", (1, 1), ("hear", 2)),)
        self.check((FIELD, bad + (("cy", (0, 1), MARK), ("cy", (1, 1), MARK), ("ann", (2, 1), MARK))), True)
        apart = (("cy", (0, 1), MARK), ("cy", (1, 1), MARK))
        moved = tuple([(name, stamp, ("hear", deed[1] + 2) if deed[0] == "hear" else deed) for name, stamp, deed in bad])
        self.check((FIELD, apart + moved), True)

    def test_a_ring_over_three_houses(self):
        events = (("ann", (0, 1), ("send", 0)), ("bo", (0, 1), ("hear", 0)), ("bo", (3, 1), ("send", 2)),
                  ("cy", (0, 1), ("hear", 2)), ("cy", (4, 1), ("send", 3)))
        # At least 1 + 2 + 1/2 + 2 + 1/2, so 6; at most anything.
        for stamp, ringed in (((6, 1), False), ((599, 100), True), ((9999, 1), False), ((0, 1), True)):
            self.check((FIELD, events + (("ann", stamp, ("hear", 4)),)), ringed)

    def test_a_letter_heard_twice_too_far_apart(self):
        for stamp, ringed in (((3, 1), False), ((301, 100), True)):
            events = (("ann", (0, 1), ("send", 0)), ("bo", (0, 1), ("hear", 0)), ("bo", stamp, ("hear", 0)))
            self.check((FIELD, events), ringed)

    def test_many_rounds_are_gone_through(self):
        # Each letter tells of an EVENT ahead in the row, so times turn one by one, backwards.
        names = ["a", "b", "c", "d", "e", "f"]
        houses = tuple([(name, (1, 1), (1, 1)) for name in names])
        links = tuple([(one, other, (1, 1), (1, 1)) for one, other in zip(names, names[1:] + names[:1])])
        events = [("a", (0, 1), ("send", 0))]
        for number in range(1, 6):
            events.append((names[number], (0, 1), ("hear", len(events) - 1)))
            events.append((names[number], (0, 1), ("send", number)))
        for stamp, ringed in ((5, True), (6, False), (7, True)):
            last = ("a", (stamp, 1), ("hear", len(events) - 1))
            self.check(((houses, links, "a"), tuple(events + [last])), ringed)

    def test_by_name(self):
        self.assertEqual(world_or_ring(history=(FIELD, ())), ("world", ()))
        self.assertIsNone(ring_of(history=(FIELD, ())))


class TestMadeOnes(Checked):
    def test_of_true_times(self):
        rng = random.Random(28)
        for trial in range(100):
            self.check(true_history(rng)[0], False)

    def test_of_no_times(self):
        rng = random.Random(29)
        seen = []
        for trial in range(250):
            history = wild_history(rng, plain=trial % 3 == 0)
            seen.append(has_ring(history))
            self.check(history, seen[-1])
        self.assertGreater(seen.count(True), 50)
        self.assertGreater(seen.count(False), 50)

    def test_of_true_times_with_one_stamp_moved(self):
        rng = random.Random(30)
        seen = []
        while len(seen) < 100:
            (field, events), truth = true_history(rng)
            if not events:
                continue
            k = rng.randrange(len(events))
            # The last EVENT of its house may have any greater stamp.
            if events[k][0] in [event[0] for event in events[k + 1:]]:
                continue
            stamp = pair_of(number_of(events[k][1]) + Fraction(rng.randint(0, 30), rng.randint(1, 9)))
            history = (field, events[:k] + ((events[k][0], stamp, events[k][2]),) + events[k + 1:])
            seen.append(has_ring(history))
            self.check(history, seen[-1])
        self.assertGreater(seen.count(True), 5)

    def test_large_figures(self):
        rng = random.Random(31)
        for trial in range(20):
            field, events = wild_history(rng, many=30)
            offsets = {row[0]: Fraction(rng.randint(-9999, 9999), rng.randint(1, 9999)) for row in field[0]}
            rows = tuple([(name, pair_of(number_of(stamp) + offsets[name]), deed) for name, stamp, deed in events])
            self.check((field, rows), has_ring((field, rows)))


if __name__ == "__main__":
    unittest.main()
