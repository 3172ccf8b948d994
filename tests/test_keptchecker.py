"""[40], [41]: KEPT PAPERS looked at."""

import random
import unittest

from ledclocks.errors import NoPaper
from ledclocks.keptchecker import lets_kept
from ledclocks.keptpairs import kept_pairs, kept_paper
from tests.things import (bent, bent_twice, number_of, odd_things, random_field, refusal_of, source_stamps, told_of,
                          true_history, wild_history)

FIELD = ((("ann", (1, 1), (1, 1)), ("bo", (1, 2), (3, 2)), ("cy", (2, 3), (2, 1))),
         (("ann", "bo", (1, 1), (3, 1)), ("ann", "bo", (2, 1), None), ("bo", "cy", (1, 2), (5, 2)),
          ("cy", "ann", (0, 1), (0, 1))), "ann")
MARK = ("mark",)
EVENTS = (("ann", (0, 1), ("send", 0)), ("bo", (0, 1), ("hear", 0)), ("ann", (4, 1), ("send", 1)),
          ("bo", (3, 1), ("hear", 2)), ("bo", (6, 1), ("send", 2)), ("cy", (0, 1), MARK), ("cy", (1, 1), ("hear", 4)),
          ("ann", (9, 1), MARK))
HISTORY = (FIELD, EVENTS)


def plain_chain(thing):
    if thing is None:
        return True
    return type(thing) is tuple and len(thing) > 0 and all([type(part) is int for part in thing])


def oracle_chain(history, event, chain, side):
    """What a CHAIN ADDS UP to, a Fraction, or the word and the place by [41]."""
    (houses, links, source), events = history
    drifts = {name: (number_of(fast), number_of(slow)) for name, slow, fast in houses}
    for k, number in enumerate(chain):
        if number not in range(len(events)):
            return ("event", (side, k))
    for k, number in enumerate(chain):
        if (k == 0 and events[number][0] != source) or (k > 0 and events[number][0] == source):
            return ("source", (side, k))
    total = number_of(events[chain[0]][1])
    endless = None
    for k in range(1, len(chain)):
        x, y = chain[k - 1], chain[k]
        own = [number for number, row in enumerate(events) if row[0] == events[y][0]]
        if events[y][2] == ("hear", x):
            bound = links[events[x][2][1]][2 + side]
            if bound is None:
                endless = k if endless is None else endless
            total += 0 if bound is None else number_of(bound)
        elif x in own and own.index(x) + 1 == own.index(y):
            total += (number_of(events[y][1]) - number_of(events[x][1])) / drifts[events[y][0]][side]
        else:
            return ("goes", (side, k))
    if endless is not None:
        return ("endless", (side, endless))
    return total if chain[-1] == event else ("last", side)


def oracle(history, event, thing):
    """The pair that is told, or the word and the place."""
    if type(thing) is not tuple or len(thing) != 2 or not plain_chain(thing[0]) or not plain_chain(thing[1]):
        return ("shape", -1)
    pair = []
    for side in (0, 1):
        end = None if thing[side] is None else oracle_chain(history, event, thing[side], side)
        if isinstance(end, tuple):
            return end
        pair.append(told_of(end))
    return tuple(pair)


class TestLetsKept(unittest.TestCase):
    def check(self, history, event, thing):
        wanted = oracle(history, event, thing)
        if isinstance(wanted[0], str):
            self.assertEqual(repr(refusal_of(lets_kept, history, event, thing)), repr((NoPaper,) + wanted), thing)
            return wanted[0]
        told = lets_kept(history, event, thing)
        self.assertEqual(repr(told), repr(wanted))
        return "fits"

    def refused(self, event, thing, word, at):
        self.assertEqual(repr(refusal_of(lets_kept, HISTORY, event, thing)), repr((NoPaper, word, at)))

    def some(self):
        rng = random.Random(41)
        rows = [wild_history(rng, plain=True) for trial in range(25)]
        rows += [wild_history(rng, random_field(rng, houses=3, links=6), 15) for trial in range(15)]
        return rows + [true_history(rng, random_field(rng, houses=3, links=6), 15)[0] for trial in range(15)]

    def test_papers_that_are_told(self):
        for history in self.some():
            pairs = kept_pairs(history)
            for event in range(len(history[1])):
                self.assertEqual(lets_kept(history, event, kept_paper(history, event)), pairs[event])

    def test_by_hand(self):
        for event, thing, pair in (
                (0, ((0,), (0,)), ((0, 1), (0, 1))), (1, ((0, 1), (0, 1)), ((1, 1), (3, 1))),
                (3, ((0, 1, 3), (0, 1, 3)), ((3, 1), (9, 1))), (3, ((2, 3), (0, 1, 3)), ((6, 1), (9, 1))),
                (3, ((2, 3), None), ((6, 1), None)), (3, (None, (0, 1, 3)), (None, (9, 1))),
                (6, ((2, 3, 4, 6), (0, 1, 3, 4, 6)), ((17, 2), (35, 2))), (5, (None, None), (None, None)),
                (7, ((7,), (7,)), ((9, 1), (9, 1))), (1, (None, None), (None, None))):
            self.assertEqual(lets_kept(HISTORY, event, thing), pair)
            self.assertIs(type(lets_kept(HISTORY, event, thing)), tuple)
            self.assertEqual(self.check(HISTORY, event, thing), "fits")

    def test_each_word(self):
        for side in (0, 1):
            def paper(chain):
                return (chain, None) if side == 0 else ((0, 1, 3), chain)
            for chain, k in (((8,), 0), ((-1,), 0), ((0, 1, 9), 2), ((0, -1, 9), 1), ((5, 10 ** 50), 1)):
                self.refused(3, paper(chain), "event", (side, k))
            for chain, k in (((1,), 0), ((5, 6), 0), ((0, 2), 1), ((0, 1, 7), 2), ((1, 0), 0), ((0, 0), 1)):
                self.refused(3, paper(chain), "source", (side, k))
            for chain, k in (((0, 3), 1), ((0, 1, 4), 2), ((2, 1), 1), ((0, 1, 1), 2), ((0, 1, 5), 2),
                             ((0, 1, 3, 1), 3), ((2, 3, 6), 2), ((0, 5, 9 - 5), 1)):
                self.refused(3, paper(chain), "goes", (side, k))
            for chain in ((0,), (0, 1), (0, 1, 3, 4), (7,)):
                self.refused(3, paper(chain), "last", side)
        self.refused(3, ((2, 3), (2, 3)), "endless", (1, 1))
        self.refused(4, (None, (2, 3, 4)), "endless", (1, 1))

    def test_of_several_the_first_one(self):
        self.refused(3, ((0, 9), [0]), "shape", -1)
        self.refused(3, ((1, 2, 9), None), "event", (0, 2))
        self.refused(3, ((0, 3, 2), None), "source", (0, 2))
        self.refused(4, (None, (2, 3, 6)), "goes", (1, 2))
        self.refused(0, (None, (2, 3)), "endless", (1, 1))
        self.refused(0, ((2, 3), (9,)), "last", 0)
        self.refused(3, ((2, 3), (9,)), "event", (1, 0))

    def test_odd_things(self):
        for thing in odd_things():
            self.assertEqual(self.check(HISTORY, 3, thing), "fits" if thing == (None, None) else "shape")
        for thing in (((), None), (None, ()), ((0,), (True,)), ((False,), None), ([0], None), (0, 0), ((0,), (0,), None),
                      [None, None], (None,), ((0,), "0"), ((None,), None), (((0,),), None)):
            self.refused(0, thing, "shape", -1)

    def test_spoilt_once_at_every_place_and_twice(self):
        rng = random.Random(42)
        words = []
        for history in self.some():
            for event in range(len(history[1])):
                paper = kept_paper(history, event)
                for thing in list(bent(paper)) + list(bent_twice(rng, paper, 8)):
                    words.append(self.check(history, event, thing))
        self.assertGreater(words.count("shape"), 500)

    def test_spoilt_by_other_numbers(self):
        rng = random.Random(43)
        words = []
        for history in self.some():
            many = len(history[1])
            for event in range(many):
                for turn in range(30):
                    paper = list(kept_paper(history, event))
                    for spoil in range(rng.randint(1, 2)):
                        side = rng.randint(0, 1)
                        paper[side] = self.other_chain(rng, paper, side, many)
                    words.append(self.check(history, event, tuple(paper)))
        for word in ("fits", "event", "source", "goes", "endless", "last"):
            self.assertGreater(words.count(word), 60, word)

    def other_chain(self, rng, paper, side, many):
        """A CHAIN with a number put in, taken out or turned, or that of the other side."""
        chain = list(paper[side] or ())
        choice = rng.random()
        if choice < 0.3 and paper[1 - side]:
            return tuple(paper[1 - side])
        at = rng.randint(0, len(chain))
        if choice < 0.5:
            chain.insert(at, rng.randint(-1, many))
        elif choice < 0.75 and chain:
            chain[at - 1] = rng.randint(-1, many)
        elif chain:
            chain.pop(rng.choice((at - 1, -1)))
        return tuple(chain) or None

    def test_whoever_wrote_it_the_source_time_lies_between(self):
        rng = random.Random(44)
        seen = 0
        for trial in range(30):
            history, truth = true_history(rng, random_field(rng, houses=3, links=6), 14)
            mark = source_stamps(history)
            for event in range(len(truth) if mark is not None else 0):
                for turn in range(20):
                    paper = [self.other_chain(rng, kept_paper(history, rng.randint(0, event)), side, event + 1)
                             for side in (0, 1)]
                    if refusal_of(lets_kept, history, event, tuple(paper)) is not None:
                        continue
                    low, high = [number_of(end) for end in lets_kept(history, event, tuple(paper))]
                    at_event = mark[0] + truth[event] - truth[mark[1]]
                    self.assertTrue(low is None or low <= at_event)
                    self.assertTrue(high is None or at_event <= high)
                    seen += low is not None
        self.assertGreater(seen, 50)

    def test_by_name(self):
        self.assertEqual(lets_kept(thing=((0,), None), event=0, history=HISTORY), ((0, 1), None))


if __name__ == "__main__":
    unittest.main()
