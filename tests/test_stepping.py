"""[4], [23]: the STEPS of a HISTORY."""

import random
import unittest

from ledclocks.stepping import history_steps
from tests.things import number_of, oracle_steps, true_history, wild_history

FIELD = ((("ann", (1, 1), (1, 1)), ("bo", (1, 2), (3, 2)), ("cy", (2, 3), (2, 1))),
         (("ann", "bo", (1, 1), (3, 1)), ("ann", "bo", (2, 1), None), ("bo", "cy", (1, 2), (5, 2)),
          ("cy", "ann", (0, 1), (0, 1))), "ann")
MARK = ("mark",)


class TestSteps(unittest.TestCase):
    def steps(self, *events):
        told = history_steps((FIELD, events))
        self.assertEqual([type(told)] + [type(step) for step in told], [tuple] * (len(told) + 1))
        return told

    def test_no_events(self):
        self.assertEqual(self.steps(), ())

    def test_the_first_event_of_a_house_has_none_with_it(self):
        self.assertEqual(self.steps(("ann", (5, 1), MARK)), ())
        self.assertEqual(self.steps(("ann", (5, 1), MARK), ("bo", (5, 1), MARK), ("cy", (5, 1), ("send", 3))), ())

    def test_with_its_house(self):
        self.assertEqual(self.steps(("bo", (1, 1), MARK), ("bo", (4, 1), MARK)), ((0, 1, (6, 1)), (1, 0, (-2, 1))))
        self.assertEqual(self.steps(("ann", (1, 1), MARK), ("ann", (4, 1), MARK)), ((0, 1, (3, 1)), (1, 0, (-3, 1))))

    def test_the_last_one_ahead_alone(self):
        told = self.steps(("bo", (1, 1), MARK), ("ann", (0, 1), MARK), ("bo", (4, 1), MARK), ("bo", (4, 1), MARK))
        self.assertEqual(told, ((0, 2, (6, 1)), (2, 0, (-2, 1)), (2, 3, (0, 1)), (3, 2, (0, 1))))

    def test_letters_heard_never_once_twice(self):
        events = [("ann", (5, 1), ("send", 0))]
        self.assertEqual(self.steps(*events), ())
        events.append(("bo", (0, 1), ("hear", 0)))
        self.assertEqual(self.steps(*events), ((0, 1, (3, 1)), (1, 0, (-1, 1))))
        events.append(("bo", (3, 1), ("hear", 0)))
        self.assertEqual(self.steps(*events), ((0, 1, (3, 1)), (1, 0, (-1, 1)), (1, 2, (6, 1)), (2, 1, (-2, 1)),
                                               (0, 2, (3, 1)), (2, 0, (-1, 1))))

    def test_a_link_without_most(self):
        told = self.steps(("ann", (5, 1), ("send", 1)), ("bo", (0, 1), ("hear", 0)))
        self.assertEqual(told, ((1, 0, (-2, 1)),))

    def test_a_link_of_nought(self):
        told = self.steps(("cy", (5, 1), ("send", 3)), ("ann", (0, 1), ("hear", 0)))
        self.assertEqual(told, ((0, 1, (0, 1)), (1, 0, (0, 1))))

    def test_fractions_in_lowest_terms(self):
        told = self.steps(("cy", (1, 3), MARK), ("cy", (5, 6), MARK))
        self.assertEqual(told, ((0, 1, (3, 4)), (1, 0, (-1, 4))))

    def test_by_the_oracle(self):
        rng = random.Random(23)
        for trial in range(150):
            history = wild_history(rng) if trial % 2 else true_history(rng)[0]
            self.assertEqual(history_steps(history), oracle_steps(history))

    def test_true_times_hold_at_each_step(self):
        rng = random.Random(4)
        for trial in range(60):
            history, truth = true_history(rng)
            for x, y, w in history_steps(history):
                self.assertLessEqual(truth[y], truth[x] + number_of(w))

    def test_by_name(self):
        self.assertEqual(history_steps(history=(FIELD, ())), ())


if __name__ == "__main__":
    unittest.main()
