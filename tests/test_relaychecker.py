"""[18], [19]: RELAYS looked at."""

import itertools
import random
import unittest

from ledclocks.errors import NoPaper
from ledclocks.relaychecker import lets_relay
from ledclocks.relays import relay_from
from tests.test_relays import EVENTS, FIELD, HISTORY, oracle_bounds, random_relay, some_histories
from tests.things import bent, bent_twice, number_of, odd_things, random_field, refusal_of, true_history


def oracle(history, thing):
    """The BOUNDS, or the word and the place by [19]."""
    if type(thing) is not tuple or not thing or not all([type(number) is int for number in thing]):
        return ("shape", -1)
    for k, number in enumerate(thing):
        if number not in range(len(history[1])):
            return ("event", k)
    for k in range(1, len(thing)):
        if oracle_bounds(history, thing[k - 1:k + 1]) is None:
            return ("goes", k)
    return oracle_bounds(history, thing)


class TestLetsRelay(unittest.TestCase):
    def check(self, history, thing):
        wanted = oracle(history, thing)
        if isinstance(wanted[0], str):
            self.assertEqual(repr(refusal_of(lets_relay, history, thing)), repr((NoPaper,) + wanted), thing)
            return wanted[0]
        self.assertEqual(repr(lets_relay(history, thing)), repr(wanted))
        return "fits"

    def refused(self, thing, word, at):
        self.assertEqual(repr(refusal_of(lets_relay, HISTORY, thing)), repr((NoPaper, word, at)))

    def test_that_are_let_by(self):
        for thing, bounds in (((0,), ((0, 1), (0, 1))), ((0, 2), ((1, 1), (3, 1))), ((1, 4), ((14, 3), (14, 1))),
                              ((0, 2, 3, 5), ((7, 2), (23, 2))), ((6, 7), ((0, 1), None)),
                              ((3, 8), ((1, 2), (5, 2))), ((0, 7), ((9, 1), (9, 1)))):
            told = lets_relay(HISTORY, thing)
            self.assertEqual((told, type(told)), (bounds, tuple))

    def test_each_word(self):
        for thing in ((), [], [0], 0, None, "0", (True,), (0, True), (0, None), (0, "2"), ((0,),), (0, (2,)), (0, [2])):
            self.refused(thing, "shape", -1)
        for thing, k in (((10,), 0), ((-1,), 0), ((0, 2, 10), 2), ((0, -10, 10), 1), ((0, 10 ** 50), 1)):
            self.refused(thing, "event", k)
        for thing, k in (((0, 0), 1), ((0, 1), 1), ((2, 0), 1), ((2, 1), 1), ((0, 2, 5), 2), ((3, 5, 4), 2),
                         ((5, 3), 1), ((0, 2, 3, 5, 9), 4), ((4, 8), 1), ((6, 9), 1)):
            self.refused(thing, "goes", k)

    def test_of_several_the_first_one(self):
        self.refused((10, 0, True), "shape", -1)
        self.refused((0, 0, 10), "event", 2)
        self.refused((0, 10, -1), "event", 1)
        self.refused((0, 1, 0), "goes", 1)

    def test_of_no_events(self):
        self.assertEqual(refusal_of(lets_relay, (FIELD, ()), (0,)), (NoPaper, "event", 0))
        self.assertEqual(refusal_of(lets_relay, (FIELD, ()), ()), (NoPaper, "shape", -1))

    def test_odd_things(self):
        for thing in odd_things():
            self.check(HISTORY, thing)
            self.check((FIELD, ()), thing)

    def test_all_short_rows(self):
        words = []
        for many in range(4):
            for thing in itertools.product(range(-1, len(EVENTS) + 1), repeat=many):
                words.append(self.check(HISTORY, thing))
        for word in ("shape", "event", "goes"):
            self.assertGreaterEqual(words.count(word), 1, word)
        self.assertGreater(words.count("fits"), 40)

    def test_told_ones_and_spoilt_ones(self):
        rng = random.Random(19)
        words = []
        for history in some_histories(191, 8):
            many = len(history[1])
            for start in range(many):
                for relay in (random_relay(rng, history, start), relay_from(history, rng.randint(0, start), start)):
                    if relay is None:
                        continue
                    self.assertEqual(self.check(history, relay), "fits")
                    for thing in list(bent(relay)) + list(bent_twice(rng, relay, 4)):
                        words.append(self.check(history, thing))
                    for turn in range(6):
                        words.append(self.check(history, self.other(rng, relay, many)))
        for word in ("shape", "event", "goes", "fits"):
            self.assertGreater(words.count(word), 100, word)

    def other(self, rng, relay, many):
        """A RELAY with a number put in, taken out, turned, or two exchanged."""
        rows = list(relay)
        at = rng.randrange(len(rows))
        choice = rng.random()
        if choice < 0.3:
            rows.insert(at, rng.randint(-1, many))
        elif choice < 0.6:
            rows[at] = rng.randint(-1, many)
        elif choice < 0.8:
            rows.pop(at)
        else:
            rows[at], rows[0] = rows[0], rows[at]
        return tuple(rows)

    def test_whoever_wrote_it_the_bounds_hold(self):
        rng = random.Random(20)
        seen = 0
        for trial in range(40):
            history, truth = true_history(rng, random_field(rng, houses=3, links=6), 14)
            for start in range(len(truth)):
                for turn in range(5):
                    relay = self.other(rng, random_relay(rng, history, start), len(truth) - 1)
                    if refusal_of(lets_relay, history, relay) is None:
                        least, most = [number_of(end) for end in lets_relay(history, relay)]
                        apart = truth[relay[-1]] - truth[relay[0]]
                        self.assertTrue(least <= apart and (most is None or apart <= most))
                        seen += 1
        self.assertGreater(seen, 200)

    def test_by_name(self):
        self.assertEqual(lets_relay(thing=(3,), history=HISTORY), ((0, 1), (0, 1)))


if __name__ == "__main__":
    unittest.main()
