"""[6], [17], [21]: what an EVENT HAS HEARD, and the PART of it."""

import random
import unittest

from ledclocks.errors import NoNumber
from ledclocks.hearing import has_heard, part_heard
from ledclocks.stepping import history_steps
from tests.things import number_of, oracle_heard, refusal_of, true_history, wild_history

FIELD = ((("ann", (1, 1), (1, 1)), ("bo", (1, 2), (3, 2)), ("cy", (2, 3), (2, 1))),
         (("ann", "bo", (1, 1), (3, 1)), ("bo", "cy", (1, 2), (5, 2)), ("cy", "ann", (0, 1), None)), "ann")
MARK = ("mark",)
EVENTS = (("ann", (0, 1), ("send", 0)), ("cy", (5, 1), MARK), ("bo", (1, 1), MARK), ("bo", (2, 1), ("hear", 0)),
          ("ann", (3, 1), ("send", 0)), ("bo", (4, 1), ("send", 1)), ("cy", (6, 1), ("hear", 5)),
          ("cy", (6, 1), ("send", 2)), ("cy", (7, 1), ("hear", 5)), ("ann", (9, 1), ("hear", 7)),
          ("bo", (9, 1), ("hear", 4)), ("bo", (9, 1), ("hear", 0)))
HISTORY = (FIELD, EVENTS)


def some_histories():
    rng = random.Random(17)
    rows = [wild_history(rng, plain=trial % 2 == 0) for trial in range(80)]
    return rows + [true_history(rng)[0] for trial in range(40)]


class TestHasHeard(unittest.TestCase):
    def test_by_hand(self):
        for number, heard in ((0, (0,)), (1, (1,)), (2, (2,)), (3, (0, 2, 3)), (4, (0, 4)), (5, (0, 2, 3, 5)),
                              (6, (0, 1, 2, 3, 5, 6)), (7, (0, 1, 2, 3, 5, 6, 7)), (8, (0, 1, 2, 3, 5, 6, 7, 8)),
                              (9, (0, 1, 2, 3, 4, 5, 6, 7, 9)), (10, (0, 2, 3, 4, 5, 10)),
                              (11, (0, 2, 3, 4, 5, 10, 11))):
            told = has_heard(HISTORY, number)
            self.assertEqual((told, type(told)), (heard, tuple), number)

    def test_a_letter_heard_never_tells_nobody(self):
        self.assertNotIn(4, has_heard((FIELD, EVENTS[:9]), 8))

    def test_by_the_oracle(self):
        for history in some_histories():
            for number in range(len(history[1])):
                self.assertEqual(has_heard(history, number), tuple(oracle_heard(history, number)))

    def test_itself_all_ahead_at_its_house_and_what_those_have_heard(self):
        for history in some_histories():
            for number, event in enumerate(history[1]):
                told = has_heard(history, number)
                self.assertEqual(told[-1], number)
                ahead = [k for k in range(number) if history[1][k][0] == event[0]]
                self.assertTrue(set(ahead) <= set(told))
                for k in told:
                    self.assertTrue(set(has_heard(history, k)) <= set(told))

    def test_what_is_put_on_turns_nothing(self):
        for field, events in some_histories()[:30]:
            for number in range(len(events)):
                self.assertEqual(has_heard((field, events[:number + 1]), number), has_heard((field, events), number))

    def test_no_such_event(self):
        for number in (12, 13, -1, -2, -12, 10 ** 50, -(10 ** 50)):
            self.assertEqual(refusal_of(has_heard, HISTORY, number), (NoNumber, number))
            self.assertEqual(refusal_of(part_heard, HISTORY, number), (NoNumber, number))
        for number in (0, -1):
            self.assertEqual(refusal_of(has_heard, (FIELD, ()), number), (NoNumber, number))
            self.assertEqual(refusal_of(part_heard, (FIELD, ()), number), (NoNumber, number))

    def test_by_name(self):
        self.assertEqual(has_heard(number=3, history=HISTORY), (0, 2, 3))
        self.assertEqual(part_heard(number=0, history=HISTORY), (FIELD, EVENTS[:1]))


class TestPartHeard(unittest.TestCase):
    def test_numbers_in_hears_put_right(self):
        self.assertEqual(part_heard(HISTORY, 10), (FIELD, (
            ("ann", (0, 1), ("send", 0)), ("bo", (1, 1), MARK), ("bo", (2, 1), ("hear", 0)),
            ("ann", (3, 1), ("send", 0)), ("bo", (4, 1), ("send", 1)), ("bo", (9, 1), ("hear", 3)))))
        told = part_heard(HISTORY, 8)
        self.assertEqual([event[2] for event in told[1]],
                         [("send", 0), MARK, MARK, ("hear", 0), ("send", 1), ("hear", 4), ("send", 2), ("hear", 4)])
        self.assertEqual(told[0], FIELD)

    def test_of_one_event_alone(self):
        self.assertEqual(part_heard(HISTORY, 1), (FIELD, (("cy", (5, 1), MARK),)))

    def test_of_all_of_it(self):
        history = (FIELD, EVENTS[:1] + (("bo", (2, 1), ("hear", 0)),))
        self.assertEqual(part_heard(history, 1), history)

    def test_kinds(self):
        told = part_heard(HISTORY, 9)
        self.assertEqual([type(told), type(told[1])] + [type(event) for event in told[1]], [tuple] * 11)

    def test_its_events_are_those_heard(self):
        for history in some_histories():
            for number in range(len(history[1])):
                heard = has_heard(history, number)
                field, events = part_heard(history, number)
                self.assertEqual(field, history[0])
                self.assertEqual([event[:2] for event in events], [history[1][k][:2] for k in heard])
                for old, event in zip(heard, events):
                    was = history[1][old][2]
                    put = ("hear", heard[event[2][1]]) if event[2][0] == "hear" else event[2]
                    self.assertEqual(put, was)

    def test_the_last_one_has_heard_all_of_it(self):
        for history in some_histories():
            for number in range(len(history[1])):
                part = part_heard(history, number)
                last = len(part[1]) - 1
                self.assertEqual(has_heard(part, last), tuple(range(last + 1)))
                self.assertEqual(part_heard(part, last), part)

    def test_a_parts_part_is_that_of_the_history(self):
        for history in some_histories()[::3]:
            for number in range(len(history[1])):
                part = part_heard(history, number)
                for place, old in enumerate(has_heard(history, number)):
                    self.assertEqual(part_heard(part, place), part_heard(history, old))

    def test_a_world_that_fits_fits_the_part(self):
        rng = random.Random(21)
        for trial in range(40):
            history, truth = true_history(rng)
            for number in range(len(history[1])):
                times = [truth[k] for k in has_heard(history, number)]
                for x, y, w in history_steps(part_heard(history, number)):
                    self.assertLessEqual(times[y], times[x] + number_of(w))


if __name__ == "__main__":
    unittest.main()
