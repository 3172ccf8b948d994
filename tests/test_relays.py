"""[18], [19], [20], [21]: RELAYS and their BOUNDS."""

import random
import unittest

from ledclocks.hearing import has_heard, part_heard
from ledclocks.relaychecker import lets_relay
from ledclocks.relays import relay_bounds, relay_from
from ledclocks.worlds import world_bars
from tests.things import number_of, oracle_heard, random_field, told_of, true_history, wild_history, world_of

FIELD = ((("ann", (1, 1), (1, 1)), ("bo", (1, 2), (3, 2)), ("cy", (2, 3), (2, 1))),
         (("ann", "bo", (1, 1), (3, 1)), ("bo", "cy", (1, 2), (5, 2)), ("cy", "ann", (0, 1), None)), "ann")
MARK = ("mark",)
EVENTS = (("ann", (0, 1), ("send", 0)), ("bo", (1, 1), MARK), ("bo", (2, 1), ("hear", 0)), ("bo", (5, 1), ("send", 1)),
          ("bo", (8, 1), MARK), ("cy", (6, 1), ("hear", 3)), ("cy", (8, 1), ("send", 2)), ("ann", (9, 1), ("hear", 6)),
          ("cy", (9, 1), ("hear", 3)), ("ann", (9, 1), MARK))
HISTORY = (FIELD, EVENTS)


def oracle_bounds(history, relay):
    """BOUNDS by [18], with Fractions; None where it is no RELAY."""
    (houses, links, source), events = history
    drifts = {name: (number_of(slow), number_of(fast)) for name, slow, fast in houses}
    least, most = 0, 0
    for x, y in zip(relay, relay[1:]):
        if events[y][2] == ("hear", x):
            link = links[events[x][2][1]]
            least += number_of(link[2])
            most = None if most is None or link[3] is None else most + number_of(link[3])
        elif events[y][0] == events[x][0] and y > x:
            slow, fast = drifts[events[y][0]]
            gone = number_of(events[y][1]) - number_of(events[x][1])
            least += gone / fast
            most = None if most is None else most + gone / slow
        else:
            return None
    return (told_of(number_of((0, 1)) + least), told_of(None if most is None else number_of((0, 1)) + most))


def random_relay(rng, history, start, longest=9):
    """A RELAY from start on, over letters and over the houses' own EVENTS, some skipped."""
    events = history[1]
    relay = [start]
    while len(relay) < longest:
        at = relay[-1]
        hears = [k for k, event in enumerate(events) if event[2] == ("hear", at)]
        own = [k for k in range(at + 1, len(events)) if events[k][0] == events[at][0]]
        if not hears + own or rng.random() < 0.1:
            break
        relay.append(rng.choice(hears or own[:3]))
    return tuple(relay)


def some_histories(seed, many=25):
    rng = random.Random(seed)
    rows = [wild_history(rng, random_field(rng, houses=3, links=6), 18) for trial in range(many)]
    rows += [wild_history(rng, plain=True) for trial in range(many)]
    return rows + [true_history(rng, random_field(rng, houses=3, links=6), 18)[0] for trial in range(many)]


class TestBounds(unittest.TestCase):
    def test_by_hand(self):
        for relay, bounds in (((3,), ((0, 1), (0, 1))), ((0, 2), ((1, 1), (3, 1))), ((1, 2), ((2, 3), (2, 1))),
                              ((1, 4), ((14, 3), (14, 1))), ((1, 2, 4), ((14, 3), (14, 1))),
                              ((2, 3), ((2, 1), (6, 1))), ((0, 2, 3, 5), ((7, 2), (23, 2))),
                              ((6, 7), ((0, 1), None)), ((5, 6, 7, 9), ((1, 1), None)), ((0, 7), ((9, 1), (9, 1))),
                              ((3, 8), ((1, 2), (5, 2))), ((7, 9), ((0, 1), (0, 1)))):
            told = relay_bounds(HISTORY, relay)
            self.assertEqual((told, type(told)), (bounds, tuple), relay)

    def test_by_the_oracle(self):
        rng = random.Random(18)
        seen = endless = 0
        for history in some_histories(181):
            for start in range(len(history[1])):
                relay = random_relay(rng, history, start)
                told = relay_bounds(history, relay)
                self.assertEqual(told, oracle_bounds(history, relay))
                seen += len(relay) > 2
                endless += told[1] is None
        self.assertGreater(min(seen, endless), 30)

    def test_put_together_they_are_added(self):
        rng = random.Random(21)
        for history in some_histories(182, 12):
            for start in range(len(history[1])):
                relay = random_relay(rng, history, start)
                at = rng.randrange(len(relay))
                one, other = relay_bounds(history, relay[:at + 1]), relay_bounds(history, relay[at:])
                least = number_of(one[0]) + number_of(other[0])
                most = None if None in (one[1], other[1]) else number_of(one[1]) + number_of(other[1])
                self.assertEqual(relay_bounds(history, relay), (told_of(least), told_of(most)))

    def test_hold_in_worlds_that_fit(self):
        rng = random.Random(19)
        narrow = 0
        for trial in range(40):
            history, truth = true_history(rng, random_field(rng, houses=3, links=6), 20)
            for start in range(len(truth)):
                relay = random_relay(rng, history, start)
                least, most = [number_of(end) for end in relay_bounds(history, relay)]
                apart = truth[relay[-1]] - truth[relay[0]]
                self.assertLessEqual(least, apart)
                self.assertTrue(most is None or apart <= most)
                narrow += most is not None and least < most
        self.assertGreater(narrow, 50)

    def test_by_name(self):
        self.assertEqual(relay_bounds(relay=(0, 2), history=HISTORY), ((1, 1), (3, 1)))
        self.assertEqual(relay_from(y=2, x=0, history=HISTORY), (0, 2))


class TestRelayFrom(unittest.TestCase):
    def test_by_hand(self):
        self.assertEqual(relay_from(HISTORY, 3, 3), (3,))
        self.assertEqual(relay_from(HISTORY, 0, 2), (0, 2))
        self.assertIn(relay_from(HISTORY, 1, 4), ((1, 4), (1, 2, 4), (1, 3, 4), (1, 2, 3, 4)))
        for x, y in ((0, 1), (2, 1), (4, 5), (5, 3), (1, 0), (9, 0), (4, 9)):
            self.assertIsNone(relay_from(HISTORY, x, y))
        self.assertEqual(relay_from(HISTORY, 3, 5), (3, 5))
        self.assertIsNone(relay_from((FIELD, (("ann", (0, 1), ("send", 0)), ("bo", (0, 1), MARK))), 0, 1))

    def test_just_where_the_one_has_heard_the_other(self):
        found = 0
        for history in some_histories(20):
            many = len(history[1])
            for y in range(many):
                heard = oracle_heard(history, y)
                for x in range(many):
                    relay = relay_from(history, x, y)
                    self.assertEqual(relay is not None, x in heard, (history, x, y))
                    if relay is not None:
                        self.check(history, x, y, relay)
                        found += len(relay) > 1
        self.assertGreater(found, 500)

    def check(self, history, x, y, relay):
        self.assertIs(type(relay), tuple)
        self.assertEqual((relay[0], relay[-1]), (x, y))
        self.assertEqual(lets_relay(history, relay), oracle_bounds(history, relay))

    def test_what_is_put_on_turns_nothing(self):
        for field, events in some_histories(22, 6):
            for y in range(len(events)):
                for x in range(len(events)):
                    fewer = relay_from((field, events[:max(x, y) + 1]), x, y)
                    self.assertEqual(fewer is None, relay_from((field, events), x, y) is None)


class TestParts(unittest.TestCase):
    def test_the_last_of_a_part_has_heard_all_of_it(self):
        for history in some_histories(23, 8):
            for number in range(len(history[1])):
                part = part_heard(history, number)
                last = len(part[1]) - 1
                self.assertEqual(has_heard(part, last), tuple(range(last + 1)))
                for x in range(last + 1):
                    self.assertIsNotNone(relay_from(part, x, last))

    def test_a_world_that_fits_fits_the_part(self):
        rng = random.Random(24)
        for trial in range(25):
            history, truth = true_history(rng, many=20)
            for number in range(len(truth)):
                cut = [truth[k] for k in has_heard(history, number)]
                self.assertIsNone(world_bars(part_heard(history, number), world_of(cut)))

    def test_a_relay_in_a_part_is_one_of_the_history(self):
        for history in some_histories(25, 6):
            for number in range(len(history[1])):
                heard = has_heard(history, number)
                part = part_heard(history, number)
                for x in range(len(heard)):
                    relay = relay_from(part, x, len(heard) - 1)
                    whole = tuple([heard[k] for k in relay])
                    self.assertEqual(relay_bounds(history, whole), relay_bounds(part, relay))


if __name__ == "__main__":
    unittest.main()
