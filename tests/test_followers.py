"""[63]: FOLLOWS of a STATE, and a RING of FOLLOWS."""

import itertools
import random
import unittest

from ledclocks.followers import follow_ring, follows_of

ANN_KEY = (0, 1, "ann")


def best(who, steps=1):
    return (ANN_KEY, steps, who)


class TestFollowsOf(unittest.TestCase):
    def test_no_members(self):
        self.assertEqual(follows_of(()), ())

    def test_members_not_up_and_such_that_lead_themselves(self):
        state = (("ann", best("ann", 0), ()), ("bo", best("ann"), (("ann", ANN_KEY, 0, 0),)), ("cy", None, ()),
                 ("dee", best("bo", 2), ()), ("eve", best("eve", 7), ()))
        self.assertEqual(follows_of(state), (("bo", "ann"), ("dee", "bo")))

    def test_by_who_not_by_key_or_steps(self):
        state = (("ann", (ANN_KEY, 0, "bo"), ()), ("bo", ((7, 7, "zzz"), 9, "bo"), ()), ("cy", best("cy", 3), ()))
        self.assertEqual(follows_of(state), (("ann", "bo"),))

    def test_what_was_heard_is_nothing_to_it(self):
        state = (("ann", best("ann", 0), (("bo", (0, 0, "bo"), 0, 0),)), ("bo", None, ()))
        self.assertEqual(follows_of(state), ())

    def test_a_ring_of_two_and_kinds(self):
        told = follows_of((("ann", best("bo"), ()), ("bo", best("ann"), ())))
        self.assertEqual(told, (("ann", "bo"), ("bo", "ann")))
        self.assertEqual([type(told)] + [type(pair) for pair in told], [tuple] * 3)

    def test_rising(self):
        names = ["a", "b", "c", "d"]
        for whos in itertools.product([None] + names, repeat=4):
            state = tuple([(name, None if who is None else best(who), ()) for name, who in zip(names, whos)])
            told = follows_of(state=state)
            self.assertEqual(told, tuple(sorted([(n, w) for n, w in zip(names, whos) if w is not None and w != n])))


def oracle_ring(pairs):
    leads = dict(pairs)
    for name in sorted(leads):
        walk = [name]
        while leads.get(walk[-1]) is not None and leads[walk[-1]] not in walk:
            walk.append(leads[walk[-1]])
        if leads.get(walk[-1]) == name:
            return tuple(walk)
    return None


class TestFollowRing(unittest.TestCase):
    def test_none_of_none(self):
        self.assertIsNone(follow_ring(()))
        self.assertIsNone(follow_ring((("ann", "bo"),)))
        self.assertIsNone(follow_ring((("ann", "bo"), ("bo", "cy"), ("cy", "dee"))))

    def test_one_that_follows_itself(self):
        self.assertEqual(follow_ring((("ann", "ann"),)), ("ann",))
        self.assertEqual(follow_ring((("ann", "bo"), ("bo", "bo"))), ("bo",))

    def test_among_pairs_that_lead_into_it(self):
        pairs = (("ann", "cy"), ("bo", "ann"), ("cy", "eve"), ("dee", "cy"), ("eve", "dee"))
        self.assertEqual(follow_ring(pairs), ("cy", "eve", "dee"))

    def test_several_the_least_name_goes(self):
        pairs = (("a", "z"), ("b", "f"), ("c", "d"), ("d", "c"), ("f", "b"), ("z", "z"))
        self.assertEqual(follow_ring(pairs), ("b", "f"))
        pairs = (("a", "d"), ("b", "c"), ("c", "b"), ("d", "a"))
        self.assertEqual(follow_ring(pairs), ("a", "d"))
        pairs = (("a", "b"), ("b", "z"), ("y", "y"), ("z", "b"))
        self.assertEqual(follow_ring(pairs), ("b", "z"))

    def test_all_in_one(self):
        names = ["a", "b", "c", "d", "e", "f", "g", "h"]
        pairs = tuple(zip(names, names[1:] + names[:1]))
        told = follow_ring(pairs=pairs)
        self.assertEqual(told, tuple(names))
        self.assertIs(type(told), tuple)

    def test_a_long_row_without_a_ring_and_with_one_at_its_end(self):
        names = [a + b for a in "abcdefghij" for b in "abcdefghij"]
        pairs = tuple(zip(names, names[1:]))
        self.assertIsNone(follow_ring(pairs))
        self.assertEqual(follow_ring(pairs + ((names[-1], names[-2]),)), (names[-2], names[-1]))
        self.assertEqual(follow_ring(pairs + ((names[-1], names[0]),)), tuple(names))

    def test_all_of_four(self):
        names = ["a", "b", "c", "d"]
        for whos in itertools.product([None, "x"] + names, repeat=4):
            pairs = tuple([(name, who) for name, who in zip(names, whos) if who is not None])
            self.assertEqual(follow_ring(pairs), oracle_ring(pairs), pairs)

    def test_at_random(self):
        rng = random.Random(63)
        names = sorted(["a", "ab", "b", "ba", "c", "ca", "d", "da", "e", "z"])
        for trial in range(500):
            some = sorted(rng.sample(names, rng.randint(0, 10)))
            pairs = tuple([(name, rng.choice(names)) for name in some])
            self.assertEqual(follow_ring(pairs), oracle_ring(pairs), pairs)


if __name__ == "__main__":
    unittest.main()
