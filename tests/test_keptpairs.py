"""[7], [38], [39], [40]: KEPT pairs, and papers of them."""

import random
import unittest

from ledclocks.keptpairs import first_void, kept_pairs, kept_paper
from tests.things import number_of, pair_of, source_stamps, true_history, wild_history

ANN = ("ann", (1, 1), (1, 1))
BO = ("bo", (1, 2), (3, 2))
CY = ("cy", (2, 3), (2, 1))
FIELD = ((ANN, BO, CY), (("ann", "bo", (1, 1), (3, 1)), ("ann", "bo", (2, 1), None), ("bo", "cy", (1, 2), (5, 2)),
                         ("cy", "ann", (0, 1), (0, 1)), ("cy", "bo", (1, 3), (1, 2))), "ann")
MARK = ("mark",)


def oracle_pair(history, number):
    """The KEPT pair by [7], with Fractions, looked up anew each time."""
    (houses, links, source), events = history
    name, stamp, deed = events[number]
    own = number_of(stamp)
    if name == source:
        return (own, own)
    low = high = None
    ahead = [k for k in range(number) if events[k][0] == name]
    if ahead:
        slow, fast = [(number_of(row[1]), number_of(row[2])) for row in houses if row[0] == name][0]
        gone = own - number_of(events[ahead[-1]][1])
        low, high = oracle_pair(history, ahead[-1])
        low = None if low is None else low + gone / fast
        high = None if high is None else high + gone / slow
    if deed[0] == "hear":
        link = links[events[deed[1]][2][1]]
        heard_low, heard_high = oracle_pair(history, deed[1])
        if heard_low is not None:
            heard_low += number_of(link[2])
            low = heard_low if low is None else max(low, heard_low)
        if heard_high is not None and link[3] is not None:
            heard_high += number_of(link[3])
            high = heard_high if high is None else min(high, heard_high)
    return (low, high)


def adds_up(history, chain, event, side):
    """What a CHAIN to the EVENT ADDS UP to by [40]; fails where it is none."""
    (houses, links, source), events = history
    drifts = {name: (number_of(fast), number_of(slow)) for name, slow, fast in houses}
    assert type(chain) is tuple and len(chain) > 0 and chain[-1] == event, chain
    assert [events[k][0] == source for k in chain] == [True] + [False] * (len(chain) - 1), chain
    total = number_of(events[chain[0]][1])
    for x, y in zip(chain, chain[1:]):
        name, stamp, deed = events[y]
        if deed == ("hear", x):
            total += number_of(links[events[x][2][1]][2 + side])
            continue
        assert x < y and [events[k][0] for k in range(x, y + 1)].count(name) == 2 and events[x][0] == name, chain
        total += (number_of(stamp) - number_of(events[x][1])) / drifts[name][side]
    return total


def some_histories():
    rng = random.Random(38)
    rows = [wild_history(rng, plain=trial % 2 == 0) for trial in range(120)]
    rows += [true_history(rng)[0] for trial in range(60)]
    return rows


class TestKeptPairs(unittest.TestCase):
    def pairs(self, *events):
        told = kept_pairs((FIELD, events))
        self.assertIs(type(told), tuple)
        self.assertEqual([type(pair) for pair in told], [tuple] * len(events))
        return told

    def test_no_events(self):
        self.assertEqual(self.pairs(), ())

    def test_of_the_source_its_stamp_twice(self):
        told = self.pairs(("ann", (-3, 2), MARK), ("ann", (5, 1), ("send", 0)))
        self.assertEqual(told, (((-3, 2), (-3, 2)), ((5, 1), (5, 1))))

    def test_of_the_source_also_where_it_hears(self):
        told = self.pairs(("ann", (0, 1), ("send", 0)), ("bo", (9, 1), ("hear", 0)), ("bo", (9, 1), ("send", 2)),
                          ("cy", (7, 1), ("hear", 2)), ("cy", (7, 1), ("send", 3)), ("ann", (1, 1), ("hear", 4)))
        self.assertEqual(told[5], ((1, 1), (1, 1)))
        self.assertEqual(told[3], ((3, 2), (11, 2)))

    def test_a_house_with_nothing_ahead(self):
        told = self.pairs(("bo", (3, 1), MARK), ("bo", (4, 1), ("send", 2)), ("cy", (1, 1), ("hear", 1)))
        self.assertEqual(told, ((None, None),) * 3)

    def test_by_a_letter_with_most(self):
        told = self.pairs(("ann", (5, 1), ("send", 0)), ("bo", (100, 1), ("hear", 0)))
        self.assertEqual(told[1], ((6, 1), (8, 1)))

    def test_by_a_letter_without_most(self):
        told = self.pairs(("ann", (5, 1), ("send", 1)), ("bo", (100, 1), ("hear", 0)), ("bo", (103, 1), MARK))
        self.assertEqual(told[1:], (((7, 1), None), ((9, 1), None)))

    def test_by_drift_alone(self):
        told = self.pairs(("ann", (5, 1), ("send", 0)), ("bo", (-1, 1), ("hear", 0)), ("bo", (2, 1), MARK),
                          ("bo", (2, 1), MARK), ("bo", (7, 2), ("send", 2)))
        self.assertEqual(told[2:], (((8, 1), (14, 1)), ((8, 1), (14, 1)), ((9, 1), (17, 1))))

    def test_drift_and_letter_the_greater_low_and_the_lesser_high(self):
        sent = ("ann", (0, 1), ("send", 0))
        later = ("ann", (6, 1), ("send", 0))
        # By drift from ((1, 1), (3, 1)): low 1 + gone * 2/3, high 3 + gone * 2; by the letter ((7, 1), (9, 1)).
        for gone, pair in ((0, ((7, 1), (3, 1))), (3, ((7, 1), (9, 1))), (9, ((7, 1), (9, 1))), (12, ((9, 1), (9, 1))),
                           (15, ((11, 1), (9, 1))), (2, ((7, 1), (7, 1)))):
            told = self.pairs(sent, ("bo", (0, 1), ("hear", 0)), later, ("bo", (gone, 1), ("hear", 2)))
            self.assertEqual(told[3], pair, gone)

    def test_a_letter_tells_what_drift_doesnt(self):
        told = self.pairs(("bo", (0, 1), MARK), ("ann", (0, 1), ("send", 1)), ("bo", (1, 1), ("hear", 1)),
                          ("ann", (4, 1), ("send", 0)), ("bo", (2, 1), ("hear", 3)))
        self.assertEqual(told[2], ((2, 1), None))
        self.assertEqual(told[4], ((5, 1), (7, 1)))

    def test_a_letter_that_tells_nothing(self):
        told = self.pairs(("ann", (0, 1), ("send", 0)), ("bo", (0, 1), ("hear", 0)), ("cy", (0, 1), ("send", 4)),
                          ("bo", (3, 1), ("hear", 2)))
        self.assertEqual(told[3], ((3, 1), (9, 1)))

    def test_heard_twice_and_late_and_lost(self):
        told = self.pairs(("ann", (0, 1), ("send", 0)), ("ann", (1, 1), ("send", 0)), ("ann", (9, 1), ("send", 0)),
                          ("bo", (0, 1), ("hear", 1)), ("bo", (0, 1), ("hear", 0)), ("bo", (1, 1), ("hear", 1)))
        self.assertEqual(told[3:], (((2, 1), (4, 1)), ((2, 1), (3, 1)), ((8, 3), (4, 1))))

    def test_by_the_oracle(self):
        for history in some_histories():
            told = [tuple([number_of(end) for end in pair]) for pair in kept_pairs(history)]
            self.assertEqual(told, [oracle_pair(history, k) for k in range(len(history[1]))])

    def test_ends_are_fractions_in_lowest_terms(self):
        for history in some_histories():
            for pair in kept_pairs(history):
                for end in pair:
                    self.assertTrue(end is None or (type(end) is tuple and pair_of(number_of(end)) == end), end)

    def test_holds_the_source_time(self):
        rng = random.Random(39)
        seen = 0
        for trial in range(150):
            history, truth = true_history(rng)
            mark = source_stamps(history)
            if mark is None:
                continue
            for time, pair in zip(truth, kept_pairs(history)):
                at_source = mark[0] + time - truth[mark[1]]
                self.assertTrue(pair[0] is None or number_of(pair[0]) <= at_source)
                self.assertTrue(pair[1] is None or at_source <= number_of(pair[1]))
                seen += pair[0] is not None
            self.assertIsNone(first_void(history))
        self.assertGreater(seen, 300)

    def test_events_behind_turn_nothing(self):
        for history in some_histories()[:40]:
            field, events = history
            told = kept_pairs(history)
            for many in range(len(events)):
                self.assertEqual(kept_pairs((field, events[:many])), told[:many])

    def test_nobody_else_may_be_the_source(self):
        field = (FIELD[0], FIELD[1], "ann")
        still = ("dee", (1, 1), (1, 1))
        told = kept_pairs(((field[0] + (still,), field[1], "ann"), (("dee", (4, 1), MARK), ("dee", (5, 1), MARK))))
        self.assertEqual(told, ((None, None), (None, None)))

    def test_by_name(self):
        history = (FIELD, (("ann", (1, 1), MARK),))
        self.assertEqual(kept_pairs(history=history), (((1, 1), (1, 1)),))
        self.assertIsNone(first_void(history=history))
        self.assertEqual(kept_paper(history=history, event=0), ((0,), (0,)))


class TestFirstVoid(unittest.TestCase):
    def test_none_where_none_is(self):
        self.assertIsNone(first_void((FIELD, ())))
        self.assertIsNone(first_void((FIELD, (("bo", (0, 1), MARK), ("ann", (0, 1), ("send", 1)),
                                              ("bo", (0, 1), ("hear", 1))))))

    def test_alike_ends_are_not_void(self):
        history = (FIELD, (("ann", (0, 1), ("send", 0)), ("bo", (0, 1), ("hear", 0)), ("ann", (6, 1), ("send", 0)),
                           ("bo", (12, 1), ("hear", 2))))
        self.assertEqual(kept_pairs(history)[3], ((9, 1), (9, 1)))
        self.assertIsNone(first_void(history))

    def test_the_first_of_several(self):
        events = (("ann", (0, 1), ("send", 0)), ("bo", (0, 1), ("hear", 0)), ("ann", (6, 1), ("send", 0)),
                  ("bo", (0, 1), ("hear", 2)), ("bo", (0, 1), MARK), ("ann", (7, 1), MARK))
        self.assertEqual(first_void((FIELD, events)), 3)
        self.assertIsNone(first_void((FIELD, events[:3])))

    def test_neighbours_of_the_bound(self):
        for gone, void in (((12, 1), None), ((1201, 100), 3), ((1199, 100), None), ((199, 100), 3), ((2, 1), None)):
            history = (FIELD, (("ann", (0, 1), ("send", 0)), ("bo", (0, 1), ("hear", 0)),
                               ("ann", (6, 1), ("send", 0)), ("bo", gone, ("hear", 2))))
            self.assertEqual(first_void(history), void, gone)

    def test_an_end_that_isnt_told_is_not_void(self):
        history = (FIELD, (("ann", (0, 1), ("send", 1)), ("bo", (0, 1), ("hear", 0)), ("ann", (99, 1), ("send", 1)),
                           ("bo", (0, 1), ("hear", 2))))
        self.assertEqual(kept_pairs(history)[3], ((101, 1), None))
        self.assertIsNone(first_void(history))

    def test_by_the_oracle(self):
        found = 0
        for history in some_histories():
            pairs = [oracle_pair(history, k) for k in range(len(history[1]))]
            void = [k for k, (low, high) in enumerate(pairs) if None not in (low, high) and low > high]
            self.assertEqual(first_void(history), void[0] if void else None)
            found += bool(void)
        self.assertGreater(found, 5)


class TestKeptPaper(unittest.TestCase):
    def check(self, history, event):
        told = kept_paper(history, event)
        self.assertIs(type(told), tuple)
        self.assertEqual(len(told), 2)
        for side in (0, 1):
            end = oracle_pair(history, event)[side]
            if end is None:
                self.assertIsNone(told[side])
            else:
                self.assertEqual(adds_up(history, told[side], event, side), end)
        return told

    def test_of_the_source(self):
        history = (FIELD, (("ann", (1, 1), MARK), ("ann", (4, 1), ("send", 0))))
        self.assertEqual(self.check(history, 1), ((1,), (1,)))

    def test_of_the_source_that_hears(self):
        history = (FIELD, (("cy", (0, 1), ("send", 3)), ("ann", (4, 1), MARK), ("ann", (4, 1), ("hear", 0))))
        self.assertEqual(self.check(history, 2), ((2,), (2,)))

    def test_both_none(self):
        history = (FIELD, (("ann", (0, 1), ("send", 0)), ("bo", (1, 1), MARK), ("bo", (2, 1), MARK)))
        self.assertEqual(self.check(history, 2), (None, None))

    def test_high_none(self):
        history = (FIELD, (("ann", (0, 1), ("send", 1)), ("bo", (1, 1), MARK), ("bo", (2, 1), ("hear", 0)),
                           ("bo", (3, 1), ("send", 2)), ("cy", (3, 1), ("hear", 3))))
        self.assertEqual(self.check(history, 2), ((0, 2), None))
        self.assertEqual(self.check(history, 4), ((0, 2, 3, 4), None))

    def test_both_ends_by_unlike_chains(self):
        history = (FIELD, (("ann", (0, 1), ("send", 0)), ("bo", (0, 1), ("hear", 0)), ("ann", (4, 1), ("send", 0)),
                           ("bo", (1, 1), ("hear", 2)), ("bo", (1, 1), ("send", 2)), ("cy", (0, 1), ("hear", 4))))
        self.assertEqual(self.check(history, 3), ((2, 3), (0, 1, 3)))
        self.assertEqual(self.check(history, 5), ((2, 3, 4, 5), (0, 1, 3, 4, 5)))

    def test_heard_twice(self):
        history = (FIELD, (("ann", (0, 1), ("send", 0)), ("bo", (0, 1), ("hear", 0)), ("bo", (9, 1), ("hear", 0))))
        self.assertEqual(self.check(history, 2), ((0, 1, 2), (0, 2)))

    def test_of_each_event(self):
        kinds = []
        for history in some_histories():
            for event in range(len(history[1])):
                told = self.check(history, event)
                kinds.append((told[0] is None, told[1] is None))
        self.assertGreater(kinds.count((False, False)), 100)
        self.assertGreater(kinds.count((False, True)), 20)
        self.assertGreater(kinds.count((True, True)), 100)


if __name__ == "__main__":
    unittest.main()
