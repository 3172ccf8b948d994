"""[13]: the EVENTS of a HOUSE, and LETTERS heard and LOST."""

import random
import unittest

from ledclocks.errors import NoHouse
from ledclocks.letters import heard_letters, house_events, lost_letters
from tests.things import refusal_of, true_history, wild_history

FIELD = ((("ann", (1, 1), (1, 1)), ("bo", (1, 2), (3, 2)), ("cy", (1, 1), (1, 1))),
         (("ann", "bo", (1, 1), (3, 1)), ("bo", "ann", (1, 2), None)), "ann")
MARK = ("mark",)
EVENTS = (("ann", (0, 1), ("send", 0)), ("ann", (1, 1), ("send", 0)), ("ann", (2, 1), ("send", 0)),
          ("bo", (0, 1), ("hear", 2)), ("bo", (0, 1), ("hear", 0)), ("bo", (0, 1), ("send", 1)),
          ("bo", (0, 1), ("hear", 2)), ("bo", (1, 1), MARK), ("ann", (9, 1), ("send", 0)))
HISTORY = (FIELD, EVENTS)


class TestLetters(unittest.TestCase):
    def test_events_of_a_house(self):
        for name, numbers in (("ann", (0, 1, 2, 8)), ("bo", (3, 4, 5, 6, 7)), ("cy", ())):
            told = house_events(HISTORY, name)
            self.assertEqual((told, type(told)), (numbers, tuple))
        self.assertEqual(house_events((FIELD, ()), "ann"), ())

    def test_no_house(self):
        for name in ("dee", "a", "annx", "zzzzzzzz"):
            self.assertEqual(refusal_of(house_events, HISTORY, name), (NoHouse, name))
            self.assertEqual(refusal_of(house_events, (FIELD, ()), name), (NoHouse, name))

    def test_heard_never_once_several_times(self):
        told = heard_letters(HISTORY)
        self.assertEqual((told, type(told), type(told[0])), (((0, 4), (2, 3), (2, 6)), tuple, tuple))
        told = lost_letters(HISTORY)
        self.assertEqual((told, type(told)), ((1, 5, 8), tuple))

    def test_none_at_all(self):
        for history in ((FIELD, ()), (FIELD, (("ann", (0, 1), MARK),))):
            self.assertEqual((heard_letters(history), lost_letters(history)), ((), ()))
        history = (FIELD, EVENTS[:1])
        self.assertEqual((heard_letters(history), lost_letters(history)), ((), (0,)))
        history = (FIELD, EVENTS[:1] + (("bo", (0, 1), ("hear", 0)),))
        self.assertEqual((heard_letters(history), lost_letters(history)), (((0, 1),), ()))

    def test_at_random(self):
        rng = random.Random(13)
        for trial in range(80):
            history = wild_history(rng) if trial % 2 else true_history(rng)[0]
            pairs = set()
            sends = set()
            for number, (name, stamp, deed) in enumerate(history[1]):
                if deed[0] == "hear":
                    pairs.add((deed[1], number))
                if deed[0] == "send":
                    sends.add(number)
            self.assertEqual(heard_letters(history), tuple(sorted(pairs)))
            self.assertEqual(lost_letters(history), tuple(sorted(sends - set([send for send, hear in pairs]))))
            rows = [house_events(history, house[0]) for house in history[0][0]]
            self.assertEqual(sorted([number for row in rows for number in row]), list(range(len(history[1]))))
            for house, row in zip(history[0][0], rows):
                self.assertEqual(list(row), sorted(row))
                self.assertTrue(all([history[1][number][0] == house[0] for number in row]))

    def test_by_name(self):
        self.assertEqual(house_events(name="cy", history=HISTORY), ())
        self.assertEqual(len(heard_letters(history=HISTORY)) + len(lost_letters(history=HISTORY)), 6)


if __name__ == "__main__":
    unittest.main()
