"""[5], [25], [26]: REACH by both runners, and WAYS of it."""

import random
import unittest

from ledclocks.errors import NoNumber, NoWorld
from ledclocks.reaching import least_way, reach, reach_clever, reach_plain
from tests.things import (bars, number_of, oracle_reach, random_field, refusal_of, told_of, true_history, way_sum,
                          wild_history)

FIELD = ((("ann", (1, 1), (1, 1)), ("bo", (1, 2), (3, 2)), ("cy", (2, 3), (2, 1))),
         (("ann", "bo", (1, 1), (3, 1)), ("ann", "bo", (2, 1), None), ("bo", "ann", (1, 2), (5, 2))), "ann")
MARK = ("mark",)
EVENTS = (("ann", (0, 1), ("send", 0)), ("bo", (1, 1), ("hear", 0)), ("bo", (4, 1), MARK), ("cy", (0, 1), MARK))
HISTORY = (FIELD, EVENTS)
# A letter that takes 1 at least is heard, and answered, and all of it within no time of ann's.
RING_EVENTS = (("cy", (0, 1), MARK), ("ann", (0, 1), ("send", 0)), ("bo", (0, 1), ("hear", 1)),
               ("bo", (0, 1), ("send", 2)), ("ann", (1, 1), ("hear", 3)))
BARRED = (FIELD, RING_EVENTS)


def some_histories():
    rng = random.Random(25)
    rows = [wild_history(rng, plain=trial % 2 == 0) for trial in range(70)]
    rows += [wild_history(rng, many=rng.randint(1, 8)) for trial in range(60)]
    rows += [wild_history(rng, random_field(rng, houses=3, links=6)) for trial in range(30)]
    return [history for history in rows + [true_history(rng)[0] for trial in range(50)] if history[1]]


class TestReach(unittest.TestCase):
    def test_by_hand(self):
        table = (((0, 1), (3, 1), (9, 1), None), ((-1, 1), (0, 1), (6, 1), None), ((-3, 1), (-2, 1), (0, 1), None),
                 (None, None, None, (0, 1)))
        for x, row in enumerate(table):
            for runner in (reach_plain, reach_clever):
                told = runner(HISTORY, x)
                self.assertEqual((told, type(told)), (row, tuple))
            for y, far in enumerate(row):
                self.assertEqual(reach(HISTORY, x, y), far)

    def test_a_link_without_most_is_a_way_back_alone(self):
        history = (FIELD, (("ann", (0, 1), ("send", 1)), ("bo", (1, 1), ("hear", 0))))
        self.assertEqual(reach_plain(history, 0), ((0, 1), None))
        self.assertEqual(reach_clever(history, 0), ((0, 1), None))
        self.assertEqual(reach_plain(history, 1), ((-2, 1), (0, 1)))
        self.assertIsNone(least_way(history, 0, 1))
        self.assertEqual(least_way(history, 1, 0), (0,))

    def test_rings_of_nought(self):
        history = (FIELD, (("ann", (1, 1), MARK), ("ann", (1, 1), MARK), ("ann", (1, 1), MARK)))
        for x in range(3):
            self.assertEqual(reach_plain(history, x), ((0, 1),) * 3)
            self.assertEqual(reach_clever(history, x), ((0, 1),) * 3)
            for y in range(3):
                self.assertEqual(way_sum(history, x, y, least_way(history, x, y)), 0)

    def test_by_the_oracle(self):
        fits = barred = endless = 0
        for history in some_histories():
            table = oracle_reach(history)
            many = len(history[1])
            if table is None:
                barred += 1
                for call in (reach_plain, reach_clever):
                    self.check_ring(history, refusal_of(call, history, many - 1))
                for call in (reach, least_way):
                    self.check_ring(history, refusal_of(call, history, 0, many - 1))
                continue
            fits += 1
            for x in range(many):
                row = tuple([told_of(far) for far in table[x]])
                self.assertEqual(reach_plain(history, x), row)
                self.assertEqual(reach_clever(history, x), row)
                y = (x * 7 + 3) % many
                self.assertEqual(reach(history, x, y), row[y])
                self.check_way(history, x, y, table[x][y])
                endless += row[y] is None
        self.assertGreater(min(fits, barred), 30)
        self.assertGreater(endless, 100)

    def check_ring(self, history, refused):
        self.assertIs(refused[0], NoWorld)
        self.assertTrue(bars(history, refused[1]))

    def check_way(self, history, x, y, far):
        way = least_way(history, x, y)
        if far is None:
            self.assertIsNone(way)
        else:
            self.assertEqual(way_sum(history, x, y, way), far)

    def test_ways_of_all_pairs(self):
        rng = random.Random(5)
        for trial in range(25):
            history = true_history(rng, many=12)[0]
            table = oracle_reach(history)
            for x in range(len(history[1])):
                for y in range(len(history[1])):
                    self.check_way(history, x, y, table[x][y])
                self.assertEqual(least_way(history, x, x), ())
                self.assertEqual(reach(history, x, x), (0, 1))

    def test_what_follows(self):
        rng = random.Random(26)
        for trial in range(20):
            history = true_history(rng, many=14)[0]
            rows = [[number_of(far) for far in reach_clever(history, x)] for x in range(len(history[1]))]
            places = range(len(rows))
            for x in places:
                for y in places:
                    if rows[x][y] is None:
                        continue
                    self.assertTrue(rows[y][x] is None or rows[x][y] + rows[y][x] >= 0)
                    for z in places:
                        self.assertTrue(rows[y][z] is None or rows[x][z] <= rows[x][y] + rows[y][z])

    def test_with_events_more_no_reach_is_more(self):
        rng = random.Random(27)
        for trial in range(20):
            field, events = true_history(rng, many=14)[0]
            for many in range(1, len(events)):
                fewer = reach_clever((field, events[:many]), 0)
                more = reach_clever((field, events), 0)[:many]
                for one, other in zip(fewer, more):
                    self.assertTrue(one is None or number_of(other) <= number_of(one))

    def test_by_name(self):
        self.assertEqual(reach_plain(x=3, history=HISTORY), (None, None, None, (0, 1)))
        self.assertEqual(reach_clever(x=3, history=HISTORY), (None, None, None, (0, 1)))
        self.assertEqual(reach(y=1, x=0, history=HISTORY), (3, 1))
        self.assertEqual(least_way(y=1, x=0, history=HISTORY), (0,))


class TestRefusals(unittest.TestCase):
    def test_no_such_event(self):
        for number in (4, 5, -1, -4, 10 ** 50, -(10 ** 50)):
            self.assertEqual(refusal_of(reach_plain, HISTORY, number), (NoNumber, number))
            self.assertEqual(refusal_of(reach_clever, HISTORY, number), (NoNumber, number))
            for call in (reach, least_way):
                self.assertEqual(refusal_of(call, HISTORY, number, 0), (NoNumber, number))
                self.assertEqual(refusal_of(call, HISTORY, 0, number), (NoNumber, number))
                self.assertEqual(refusal_of(call, HISTORY, number, number + 9 * 10 ** 50), (NoNumber, number))

    def test_of_two_that_of_x_first(self):
        for call in (reach, least_way):
            self.assertEqual(refusal_of(call, HISTORY, 9, -1), (NoNumber, 9))
            self.assertEqual(refusal_of(call, HISTORY, -1, 9), (NoNumber, -1))

    def test_no_events_at_all(self):
        self.assertEqual(refusal_of(reach_plain, (FIELD, ()), 0), (NoNumber, 0))
        self.assertEqual(refusal_of(reach_clever, (FIELD, ()), 0), (NoNumber, 0))
        self.assertEqual(refusal_of(least_way, (FIELD, ()), 0, 0), (NoNumber, 0))

    def test_a_ring_that_no_way_reaches(self):
        for call in (reach_plain, reach_clever):
            refused = refusal_of(call, BARRED, 0)
            self.assertIs(refused[0], NoWorld)
            self.assertTrue(bars(BARRED, refused[1]))
        for call in (reach, least_way):
            for x, y in ((0, 0), (0, 1), (1, 0), (1, 4)):
                refused = refusal_of(call, BARRED, x, y)
                self.assertIs(refused[0], NoWorld)
                self.assertTrue(bars(BARRED, refused[1]))

    def test_no_number_goes_ahead_of_no_world(self):
        for number in (5, -1):
            self.assertEqual(refusal_of(reach_plain, BARRED, number), (NoNumber, number))
            self.assertEqual(refusal_of(reach_clever, BARRED, number), (NoNumber, number))
            for call in (reach, least_way):
                self.assertEqual(refusal_of(call, BARRED, 0, number), (NoNumber, number))
                self.assertEqual(refusal_of(call, BARRED, number, 0), (NoNumber, number))

    def test_at_the_bound_of_the_ring(self):
        for stamp, truth in (((3, 2), False), ((149, 100), True), ((1, 1), True), ((2, 1), False)):
            history = (FIELD, RING_EVENTS[:4] + (("ann", stamp, ("hear", 3)),))
            self.assertEqual(refusal_of(reach_plain, history, 0) is not None, truth, stamp)
            self.assertEqual(refusal_of(reach_clever, history, 0) is not None, truth, stamp)


if __name__ == "__main__":
    unittest.main()
