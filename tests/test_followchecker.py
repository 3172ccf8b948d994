"""[63], [64]: RINGS of FOLLOWS looked at."""

import itertools
import random
import unittest

from ledclocks.errors import NoPaper
from ledclocks.followchecker import lets_follow_ring
from ledclocks.followers import follow_ring
from tests.things import bent, bent_twice, odd_things, refusal_of

NAMES = ("a", "ann", "bo", "cy", "dee")
PAIRS = (("a", "ann"), ("ann", "bo"), ("bo", "cy"), ("cy", "ann"), ("dee", "dee"))


def oracle(pairs, thing):
    """How many are in a RING, or the word and the place by [64]."""
    if type(thing) is not tuple or not thing or not all([type(name) is str for name in thing]):
        return ("shape", -1)
    for k in range(len(thing)):
        if thing.index(thing[k]) < k:
            return ("twice", k)
    follows = dict(pairs)
    for k in range(len(thing)):
        if follows.get(thing[k]) != (thing + thing[:1])[k + 1]:
            return ("follows", k)
    return len(thing)


class TestLetsFollowRing(unittest.TestCase):
    def check(self, pairs, thing):
        wanted = oracle(pairs, thing)
        if isinstance(wanted, int):
            told = lets_follow_ring(pairs, thing)
            self.assertEqual((told, type(told)), (wanted, int))
            return "fits"
        self.assertEqual(repr(refusal_of(lets_follow_ring, pairs, thing)), repr((NoPaper,) + wanted), thing)
        return wanted[0]

    def refused(self, thing, word, at):
        self.assertEqual(repr(refusal_of(lets_follow_ring, PAIRS, thing)), repr((NoPaper, word, at)))

    def test_rings_turned_and_of_one_name(self):
        for thing in (("ann", "bo", "cy"), ("bo", "cy", "ann"), ("cy", "ann", "bo")):
            self.assertEqual(lets_follow_ring(PAIRS, thing), 3)
        self.assertEqual(lets_follow_ring(PAIRS, ("dee",)), 1)

    def test_that_dont_follow(self):
        self.refused(("a",), "follows", 0)
        self.refused(("a", "ann", "bo", "cy"), "follows", 3)
        self.refused(("ann", "cy", "bo"), "follows", 0)
        self.refused(("ann", "bo"), "follows", 1)
        self.refused(("ann",), "follows", 0)
        self.refused(("zed",), "follows", 0)
        self.refused(("Ann B", ""), "follows", 0)
        self.assertEqual(refusal_of(lets_follow_ring, (), ("ann",)), (NoPaper, "follows", 0))

    def test_with_a_name_twice(self):
        self.refused(("ann", "bo", "cy", "ann", "bo", "cy"), "twice", 3)
        self.refused(("dee", "dee"), "twice", 1)
        self.refused(("zed", "x", "zed", "x"), "twice", 2)

    def test_of_other_kinds(self):
        for thing in (["ann", "bo", "cy"], (), ("ann", 0), ("ann", "ann", None), ("ann", ("bo",)), "ann", (True,),
                      ("dee", "dee", 1)):
            self.refused(thing, "shape", -1)
        for thing in odd_things():
            self.check(PAIRS, thing)

    def test_all_short_rows(self):
        words = []
        for many in range(5):
            for thing in itertools.product(NAMES, repeat=many):
                words.append(self.check(PAIRS, thing))
        for word in ("fits", "twice", "follows"):
            self.assertGreater(words.count(word), 3, word)

    def test_rings_that_are_told(self):
        rng = random.Random(64)
        seen = 0
        for trial in range(200):
            names = rng.sample(NAMES, rng.randint(0, 5))
            pairs = tuple(sorted([(name, rng.choice(NAMES)) for name in names]))
            ring = follow_ring(pairs)
            if ring is None:
                continue
            seen += 1
            self.assertEqual(lets_follow_ring(pairs, ring), len(ring))
            for thing in list(bent(ring)) + list(bent_twice(rng, ring, 10)):
                self.check(pairs, thing)
        self.assertGreater(seen, 60)

    def test_by_name(self):
        self.assertEqual(lets_follow_ring(thing=("dee",), pairs=PAIRS), 1)


if __name__ == "__main__":
    unittest.main()
