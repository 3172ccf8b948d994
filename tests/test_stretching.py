"""[5], [30], [32]: STRETCHES."""

import random
import unittest

from ledclocks.errors import NoNumber, NoWorld
from ledclocks.stretching import stretch_of
from tests.things import bars, number_of, oracle_reach, refusal_of, told_of, true_history, wild_history

FIELD = ((("ann", (1, 1), (1, 1)), ("bo", (1, 2), (3, 2)), ("cy", (2, 3), (2, 1))),
         (("ann", "bo", (1, 1), (3, 1)), ("ann", "bo", (2, 1), None), ("bo", "ann", (1, 2), (5, 2))), "ann")
MARK = ("mark",)


class TestStretch(unittest.TestCase):
    def stretch(self, events, x, y):
        told = stretch_of((FIELD, events), x, y)
        self.assertEqual((type(told), len(told)), (tuple, 2))
        return told

    def test_of_one_and_itself(self):
        for name in ("ann", "bo"):
            self.assertEqual(self.stretch(((name, (7, 2), MARK),), 0, 0), ((0, 1), (0, 1)))

    def test_by_a_letter_there_and_back(self):
        events = (("ann", (9, 1), ("send", 0)), ("bo", (0, 1), ("hear", 0)))
        self.assertEqual(self.stretch(events, 0, 1), ((1, 1), (3, 1)))
        self.assertEqual(self.stretch(events, 1, 0), ((-3, 1), (-1, 1)))

    def test_open_at_an_end(self):
        events = (("ann", (9, 1), ("send", 1)), ("bo", (0, 1), ("hear", 0)))
        self.assertEqual(self.stretch(events, 0, 1), ((2, 1), None))
        self.assertEqual(self.stretch(events, 1, 0), (None, (-2, 1)))

    def test_open_at_both(self):
        events = (("ann", (9, 1), ("send", 1)), ("bo", (0, 1), MARK))
        self.assertEqual(self.stretch(events, 0, 1), (None, None))
        self.assertEqual(self.stretch(events, 1, 0), (None, None))

    def test_by_drift_and_of_the_source(self):
        events = (("ann", (1, 1), MARK), ("bo", (1, 1), MARK), ("ann", (4, 1), MARK), ("bo", (4, 1), MARK))
        self.assertEqual(self.stretch(events, 0, 2), ((3, 1), (3, 1)))
        self.assertEqual(self.stretch(events, 1, 3), ((2, 1), (6, 1)))

    def test_a_letter_and_its_answer_narrow(self):
        events = (("ann", (0, 1), ("send", 0)), ("bo", (0, 1), ("hear", 0)), ("bo", (0, 1), ("send", 2)),
                  ("ann", (3, 1), ("hear", 2)))
        self.assertEqual(self.stretch(events, 0, 1), ((1, 1), (5, 2)))

    def test_by_the_oracle_turned_about(self):
        rng = random.Random(30)
        seen = 0
        for trial in range(120):
            history = wild_history(rng, many=rng.randint(1, 9)) if trial % 2 else true_history(rng, many=14)[0]
            table = oracle_reach(history)
            if table is None or not history[1]:
                continue
            seen += 1
            for x in range(len(table)):
                y = rng.randrange(len(table))
                low = None if table[y][x] is None else -table[y][x]
                told = stretch_of(history, x, y)
                self.assertEqual(told, (told_of(low), told_of(table[x][y])))
                turned = [None if end is None else -number_of(end) for end in told][::-1]
                self.assertEqual(stretch_of(history, y, x), tuple([told_of(end) for end in turned]))
        self.assertGreater(seen, 60)

    def test_holds_true_times(self):
        rng = random.Random(32)
        for trial in range(40):
            history, truth = true_history(rng, many=12)
            for x in range(len(truth)):
                y = rng.randrange(len(truth))
                low, high = [number_of(end) for end in stretch_of(history, x, y)]
                self.assertTrue(low is None or low <= truth[y] - truth[x])
                self.assertTrue(high is None or truth[y] - truth[x] <= high)

    def test_refusals(self):
        events = (("cy", (0, 1), MARK), ("ann", (0, 1), ("send", 0)), ("bo", (0, 1), ("hear", 1)),
                  ("bo", (0, 1), ("send", 2)), ("ann", (1, 1), ("hear", 3)))
        history = (FIELD, events)
        for x, y in ((0, 0), (0, 1), (4, 2)):
            refused = refusal_of(stretch_of, history, x, y)
            self.assertIs(refused[0], NoWorld)
            self.assertTrue(bars(history, refused[1]))
        for given in (history, (FIELD, events[:4])):
            for number in (5, -1, -5, 10 ** 50):
                self.assertEqual(refusal_of(stretch_of, given, number, 0), (NoNumber, number))
                self.assertEqual(refusal_of(stretch_of, given, 0, number), (NoNumber, number))
            self.assertEqual(refusal_of(stretch_of, given, 8, -1), (NoNumber, 8))
            self.assertEqual(refusal_of(stretch_of, given, -1, 8), (NoNumber, -1))

    def test_by_name(self):
        self.assertEqual(stretch_of(y=0, x=0, history=(FIELD, (("bo", (0, 1), MARK),))), ((0, 1), (0, 1)))


if __name__ == "__main__":
    unittest.main()
