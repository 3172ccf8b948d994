"""[6], [33], [34], [35], [36]: the SOURCE TIME by what was heard."""

import random
import unittest

from ledclocks.errors import NoNumber, NoWorld
from ledclocks.hearing import part_heard
from ledclocks.keptpairs import kept_pairs
from ledclocks.ringfinding import ring_of
from ledclocks.sourcing import by_heard
from ledclocks.stretching import stretch_of
from tests.things import (bars, number_of, oracle_reach, random_field, refusal_of, source_stamps, told_of,
                          true_history, wild_history)

FIELD = ((("ann", (1, 1), (1, 1)), ("bo", (1, 2), (3, 2)), ("cy", (2, 3), (2, 1))),
         (("ann", "bo", (1, 1), (3, 1)), ("ann", "bo", (2, 1), None), ("bo", "ann", (1, 2), (5, 2)),
          ("bo", "cy", (1, 1), (1, 1)), ("cy", "bo", (1, 1), (1, 1))), "ann")
MARK = ("mark",)


def oracle_pair(history, event):
    """The pair by [33] with Fractions; None where a RING bars."""
    part = part_heard(history, event)
    table = oracle_reach(part)
    if table is None:
        return None
    mark = source_stamps(part)
    if mark is None:
        return (None, None)
    stamp, number = mark
    last = len(part[1]) - 1
    low = None if table[last][number] is None else stamp - table[last][number]
    high = None if table[number][last] is None else stamp + table[number][last]
    return (low, high)


def some_histories():
    rng = random.Random(33)
    rows = [wild_history(rng, plain=trial % 2 == 0, many=rng.randint(0, 18)) for trial in range(50)]
    rows += [wild_history(rng, random_field(rng, houses=3, links=6), 18) for trial in range(15)]
    return rows + true_histories(rng)


def true_histories(rng):
    rows = [true_history(rng, many=rng.randint(0, 25))[0] for trial in range(30)]
    return rows + [true_history(rng, random_field(rng, houses=3, links=6), 25)[0] for trial in range(20)]


class TestByHeard(unittest.TestCase):
    def test_of_the_source_its_stamp_twice(self):
        history = (FIELD, (("ann", (-7, 2), MARK), ("bo", (0, 1), ("send", 2)), ("ann", (5, 1), ("hear", 1))))
        self.assertEqual(by_heard(history, 0), ((-7, 2), (-7, 2)))
        self.assertEqual(by_heard(history, 2), ((5, 1), (5, 1)))

    def test_nothing_of_the_source_was_heard(self):
        history = (FIELD, (("ann", (0, 1), ("send", 0)), ("bo", (0, 1), MARK), ("cy", (0, 1), ("send", 4)),
                           ("bo", (1, 1), ("hear", 2))))
        for event in (1, 2, 3):
            told = by_heard(history, event)
            self.assertEqual((told, type(told)), ((None, None), tuple))

    def test_by_a_letter(self):
        history = (FIELD, (("ann", (5, 1), ("send", 0)), ("bo", (0, 1), ("hear", 0)), ("bo", (3, 1), MARK)))
        self.assertEqual(by_heard(history, 1), ((6, 1), (8, 1)))
        self.assertEqual(by_heard(history, 2), ((8, 1), (14, 1)))

    def test_open_at_an_end(self):
        history = (FIELD, (("ann", (5, 1), ("send", 1)), ("bo", (0, 1), ("hear", 0)), ("bo", (3, 1), MARK)))
        self.assertEqual(by_heard(history, 1), ((7, 1), None))
        self.assertEqual(by_heard(history, 2), ((9, 1), None))

    def test_an_ask_and_its_answer_tell_more_than_is_kept(self):
        events = (("bo", (0, 1), ("send", 2)), ("ann", (10, 1), ("hear", 0)), ("ann", (10, 1), ("send", 1)),
                  ("bo", (2, 1), ("hear", 2)))
        self.assertEqual(by_heard((FIELD, events), 3), ((12, 1), (27, 2)))
        self.assertEqual(kept_pairs((FIELD, events))[3], ((12, 1), None))

    def test_what_others_hear_later_turns_nothing(self):
        for field, events in some_histories()[::2]:
            for event in range(len(events)):
                whole = refusal_of(by_heard, (field, events), event)
                self.assertEqual(refusal_of(by_heard, (field, events[:event + 1]), event) is None, whole is None)
                if whole is None:
                    self.assertEqual(by_heard((field, events[:event + 1]), event), by_heard((field, events), event))

    def test_by_the_oracle(self):
        barred = told_both = 0
        for history in some_histories():
            for event in range(len(history[1])):
                wanted = oracle_pair(history, event)
                if wanted is None:
                    barred += 1
                    refused = refusal_of(by_heard, history, event)
                    self.assertIs(refused[0], NoWorld)
                    self.assertTrue(bars(part_heard(history, event), refused[1]))
                    continue
                self.assertEqual(by_heard(history, event), tuple([told_of(end) for end in wanted]))
                told_both += None not in wanted
        self.assertGreater(min(barred, told_both), 60)

    def test_holds_the_source_time_and_is_no_wider_than_kept(self):
        rng = random.Random(34)
        seen = 0
        for trial in range(50):
            history, truth = true_history(rng, many=20)
            mark = source_stamps(history)
            for event, kept in enumerate(kept_pairs(history)):
                low, high = [number_of(end) for end in by_heard(history, event)]
                if low is not None:
                    seen += 1
                    self.assertLessEqual(low, mark[0] + truth[event] - truth[mark[1]])
                if high is not None:
                    self.assertLessEqual(mark[0] + truth[event] - truth[mark[1]], high)
                self.assertTrue(kept[0] is None or number_of(kept[0]) <= low)
                self.assertTrue(kept[1] is None or high <= number_of(kept[1]))
        self.assertGreater(seen, 200)

    def test_an_event_that_hears_nothing_grows_by_drift_alone(self):
        seen = 0
        for history in true_histories(random.Random(35)):
            field, events = history
            drifts = {name: (number_of(slow), number_of(fast)) for name, slow, fast in field[0]}
            for event, (name, stamp, deed) in enumerate(events):
                ahead = [k for k in range(event) if events[k][0] == name]
                if deed[0] == "hear" or not ahead or name == field[2]:
                    continue
                gone = number_of(stamp) - number_of(events[ahead[-1]][1])
                low, high = [number_of(end) for end in by_heard(history, ahead[-1])]
                low = None if low is None else low + gone / drifts[name][1]
                high = None if high is None else high + gone / drifts[name][0]
                self.assertEqual(by_heard(history, event), (told_of(low), told_of(high)))
                seen += low is not None
        self.assertGreater(seen, 50)

    def test_a_hear_narrows_it_or_leaves_it(self):
        seen = 0
        for history in true_histories(random.Random(36)):
            field, events = history
            for event, (name, stamp, deed) in enumerate(events):
                if deed[0] != "hear":
                    continue
                told = by_heard(history, event)
                self.no_wider(told, by_heard((field, events[:event] + ((name, stamp, MARK),)), event))
                least, most = field[1][events[deed[1]][2][1]][2:]
                low, high = [number_of(end) for end in by_heard(history, deed[1])]
                low = None if low is None else low + number_of(least)
                high = None if high is None or most is None else high + number_of(most)
                self.no_wider(told, (told_of(low), told_of(high)))
                seen += low is not None
        self.assertGreater(seen, 50)

    def test_no_narrower_than_by_the_whole_history(self):
        for history in true_histories(random.Random(37)):
            mark = source_stamps(history)
            for event in range(len(history[1]) if mark is not None else 0):
                low, high = [number_of(end) for end in stretch_of(history, mark[1], event)]
                whole = (None if low is None else mark[0] + low, None if high is None else mark[0] + high)
                self.no_wider(tuple([told_of(end) for end in whole]), by_heard(history, event))

    def no_wider(self, one, other):
        self.assertTrue(other[0] is None or number_of(other[0]) <= number_of(one[0]))
        self.assertTrue(other[1] is None or number_of(one[1]) <= number_of(other[1]))

    def test_a_part_with_a_ring_by_its_own_steps(self):
        events = (("cy", (0, 1), MARK), ("cy", (9, 1), MARK), ("ann", (0, 1), ("send", 0)), ("bo", (0, 1), ("hear", 2)),
                  ("bo", (0, 1), ("send", 2)), ("ann", (1, 1), ("hear", 4)), ("bo", (1, 1), MARK))
        history = (FIELD, events)
        refused = refusal_of(by_heard, history, 5)
        self.assertIs(refused[0], NoWorld)
        self.assertTrue(bars((FIELD, part_heard(history, 5)[1]), refused[1]))
        self.assertIsNotNone(ring_of(history))
        self.assertEqual(by_heard(history, 6), ((5, 3), (5, 1)))
        self.assertEqual(by_heard(history, 1), (None, None))

    def test_a_ring_bars_also_where_nothing_of_the_source_was_heard(self):
        events = (("bo", (0, 1), ("send", 3)), ("cy", (0, 1), ("hear", 0)), ("cy", (0, 1), ("send", 4)),
                  ("bo", (0, 1), ("hear", 2)))
        history = (FIELD, events)
        refused = refusal_of(by_heard, history, 3)
        self.assertIs(refused[0], NoWorld)
        self.assertTrue(bars(history, refused[1]))
        self.assertEqual(by_heard(history, 2), (None, None))

    def test_no_such_event(self):
        history = (FIELD, (("bo", (0, 1), ("send", 3)), ("cy", (0, 1), ("hear", 0)), ("cy", (0, 1), ("send", 4)),
                           ("bo", (0, 1), ("hear", 2))))
        for number in (4, 5, -1, -4, 10 ** 50):
            self.assertEqual(refusal_of(by_heard, history, number), (NoNumber, number))
        self.assertEqual(refusal_of(by_heard, (FIELD, ()), 0), (NoNumber, 0))

    def test_by_name(self):
        self.assertEqual(by_heard(event=0, history=(FIELD, (("bo", (0, 1), MARK),))), (None, None))


if __name__ == "__main__":
    unittest.main()
