"""[45], [46], [47], [48]: what a majority of SPANS holds."""

import itertools
import random
import unittest
from fractions import Fraction

from ledclocks.errors import ClockError, Lied
from ledclocks.majorities import by_majority, count_in, cover_paper
from tests.things import number_of, pair_of

ENDS = (None, (-1, 1), (0, 1), (1, 2), (2, 1))


def span(low, high):
    return (None if low is None else (low, 1), None if high is None else (high, 1))


def spans_of(*pairs):
    return tuple([span(*pair) for pair in pairs])


def depth(spans, point):
    """In how many SPANS a Fraction is, with Fractions."""
    many = 0
    for low, high in spans:
        above = low is None or number_of(low) <= point
        many += above and (high is None or point <= number_of(high))
    return many


def points_of(spans):
    """Each end, a point between any two neighbours, and one far off at either side, rising."""
    ends = sorted(set([number_of(end) for pair in spans for end in pair if end is not None]) or {Fraction(0)})
    points = [ends[0] - 9] + ends + [ends[-1] + 9]
    return sorted(points + [(one + other) / 2 for one, other in zip(ends, ends[1:])])


def oracle(spans, liars):
    """What is told by [46]: a pair of Fractions or None, or how many would have to lie."""
    points = points_of(spans)
    depths = [depth(spans, point) for point in points]
    need = len(spans) - liars
    held = [k for k in range(len(points)) if depths[k] >= need]
    if not held:
        return len(spans) - max(depths)
    return (None if held[0] == 0 else points[held[0]], None if held[-1] == len(points) - 1 else points[held[-1]])


def made_spans(rng, many=None):
    rows = []
    for number in range(rng.randint(0, 8) if many is None else many):
        low = Fraction(rng.randint(-20, 20), rng.randint(1, 3))
        high = low + Fraction(rng.randint(-4, 25), rng.randint(1, 3))
        low = None if rng.random() < 0.15 else pair_of(low)
        high = None if rng.random() < 0.15 else pair_of(high)
        rows.append((low, high))
    return tuple(rows)


class TestCountIn(unittest.TestCase):
    def test_of_none(self):
        self.assertEqual(count_in((), (0, 1)), 0)

    def test_at_the_ends_and_beyond(self):
        one = (((1, 3), (1, 2)),)
        for point, many in (((1, 3), 1), ((1, 2), 1), ((2, 5), 1), ((33, 100), 0), ((51, 100), 0), ((-1, 3), 0)):
            told = count_in(one, point)
            self.assertEqual((told, type(told)), (many, int), point)

    def test_open_at_an_end_at_both_of_one_point_low_above_high(self):
        for spans, counts in ((spans_of((None, 1)), (1, 1, 0)), (spans_of((1, None)), (0, 1, 1)),
                              (spans_of((None, None)), (1, 1, 1)), (spans_of((1, 1)), (0, 1, 0)),
                              (spans_of((2, 0)), (0, 0, 0)), (spans_of((0, 2), (0, 2), (None, 1)), (3, 3, 2))):
            self.assertEqual(tuple([count_in(spans, (point, 1)) for point in (0, 1, 2)]), counts, spans)

    def test_by_the_oracle(self):
        rng = random.Random(45)
        for trial in range(100):
            spans = made_spans(rng)
            for point in points_of(spans):
                self.assertEqual(count_in(spans, pair_of(point)), depth(spans, point))

    def test_by_name(self):
        self.assertEqual(count_in(point=(0, 1), spans=spans_of((0, 1))), 1)


class TestByMajority(unittest.TestCase):
    def refused(self, many, call, *given, **named):
        with self.assertRaises(ClockError) as caught:
            call(*given, **named)
        self.assertIs(type(caught.exception), Lied)
        self.assertEqual((caught.exception.many, type(caught.exception.many)), (many, int))

    def check(self, spans, liars):
        wanted = oracle(spans, liars)
        if isinstance(wanted, int):
            self.refused(wanted, by_majority, spans, liars=liars)
            self.refused(wanted, cover_paper, spans, liars=liars)
            return
        told = by_majority(spans, liars=liars)
        self.assertIs(type(told), tuple)
        self.assertEqual(told, tuple([None if end is None else pair_of(end) for end in wanted]), (spans, liars))
        paper = cover_paper(spans, liars=liars)
        covers = [tuple([k for k in range(len(spans)) if end is not None and depth(spans[k:k + 1], end)])
                  for end in wanted]
        self.assertEqual(paper, told + tuple(covers), (spans, liars))
        self.assertEqual([type(paper), type(paper[2]), type(paper[3])], [tuple, tuple, tuple])

    def test_of_none(self):
        self.assertEqual(by_majority(()), (None, None))
        self.assertEqual(by_majority((), liars=3), (None, None))

    def test_of_one(self):
        for ends in ((0, 1), (1, 1), (None, 1), (1, None), (None, None)):
            self.assertEqual(by_majority(spans_of(ends)), span(*ends))
            self.assertEqual(by_majority(spans_of(ends), liars=1), (None, None))
        self.refused(1, by_majority, spans_of((1, 0)))
        self.assertEqual(by_majority(spans_of((1, 0)), liars=1), (None, None))

    def test_liars_left_out_are_none(self):
        self.assertEqual(by_majority(spans_of((0, 5), (3, 9), (2, 4))), span(3, 4))
        self.refused(1, by_majority, spans_of((0, 5), (6, 9)))
        self.assertEqual(cover_paper(spans_of((0, 5), (3, 9))), span(3, 5) + ((0, 1), (0, 1)))

    def test_a_liar_more_and_more(self):
        spans = spans_of((0, 5), (3, 9), (2, 4), (20, 21))
        self.refused(1, by_majority, spans)
        for liars, ends in ((1, (3, 4)), (2, (2, 5)), (3, (0, 21)), (4, (None, None)), (5, (None, None))):
            self.assertEqual(by_majority(spans, liars=liars), span(*ends))

    def test_held_with_a_gap_within(self):
        spans = spans_of((0, 1), (0, 1), (8, 9), (8, 9))
        self.assertEqual(by_majority(spans, liars=2), span(0, 9))
        self.refused(2, by_majority, spans, liars=1)

    def test_open_ends(self):
        spans = spans_of((None, 5), (None, 3), (4, None))
        self.assertEqual(by_majority(spans, liars=1), span(None, 5))
        self.assertEqual(by_majority(spans, liars=2), span(None, None))
        self.refused(1, by_majority, spans)
        self.assertEqual(by_majority(spans_of((4, None), (6, None), (None, 5)), liars=1), span(4, None))

    def test_touching_at_one_point(self):
        self.assertEqual(by_majority(spans_of((0, 3), (3, 9))), span(3, 3))
        self.assertEqual(by_majority(spans_of((None, 3), (3, None))), span(3, 3))
        self.assertEqual(by_majority((((0, 1), (1, 3)), ((1, 3), (1, 2)))), ((1, 3), (1, 3)))

    def test_low_above_high_holds_nothing(self):
        spans = spans_of((0, 4), (5, 1), (2, 6))
        self.refused(1, by_majority, spans)
        self.assertEqual(by_majority(spans, liars=1), span(2, 4))
        self.refused(2, by_majority, spans_of((2, 1), (4, 3)), liars=1)
        self.assertEqual(by_majority(spans_of((2, 1), (4, 3)), liars=2), (None, None))

    def test_all_pairs_of_spans(self):
        kinds = list(itertools.product(ENDS, ENDS))
        for spans in itertools.product(kinds, repeat=2):
            for liars in range(4):
                self.check(spans, liars)

    def test_at_random(self):
        rng = random.Random(46)
        for trial in range(300):
            spans = made_spans(rng)
            for liars in range(len(spans) + 3):
                self.check(spans, liars)

    def test_lied_tells_the_least_by_which_one_is_held(self):
        rng = random.Random(47)
        seen = 0
        for trial in range(200):
            spans = made_spans(rng)
            try:
                by_majority(spans)
            except Lied as refused:
                seen += 1
                by_majority(spans, liars=refused.many)
                self.refused(refused.many, by_majority, spans, liars=refused.many - 1)
        self.assertGreater(seen, 50)

    def test_the_true_one_lies_in_it_and_more_liars_are_no_narrower(self):
        rng = random.Random(48)
        for trial in range(100):
            truth = Fraction(rng.randint(-9, 9), rng.randint(1, 4))
            liars = rng.randint(0, 3)
            rows = list(made_spans(rng, liars))
            for number in range(rng.randint(1, 5)):
                rows.append((pair_of(truth - rng.randint(0, 5)), pair_of(truth + rng.randint(0, 5))))
            rng.shuffle(rows)
            last = None
            for many in range(liars, len(rows) + 1):
                low, high = [number_of(end) for end in by_majority(tuple(rows), liars=many)]
                self.assertTrue((low is None or low <= truth) and (high is None or truth <= high))
                if last is not None:
                    self.assertTrue(low is None or (last[0] is not None and low <= last[0]))
                    self.assertTrue(high is None or (last[1] is not None and last[1] <= high))
                last = (low, high)

    def test_by_name(self):
        spans = spans_of((0, 1), (2, 3))
        self.assertEqual(by_majority(liars=1, spans=spans), span(0, 3))
        self.assertEqual(cover_paper(liars=1, spans=spans), span(0, 3) + ((0,), (1,)))
        with self.assertRaises(TypeError):
            by_majority(spans, 1)
        with self.assertRaises(TypeError):
            cover_paper(spans, 1)


class TestCoverPaper(unittest.TestCase):
    def test_all_that_an_end_is_in(self):
        spans = spans_of((0, 5), (3, 9), (2, 4), (20, 21), (3, 3))
        self.assertEqual(cover_paper(spans, liars=1), span(3, 3) + ((0, 1, 2, 4), (0, 1, 2, 4)))
        self.assertEqual(cover_paper(spans, liars=2), span(3, 4) + ((0, 1, 2, 4), (0, 1, 2)))
        self.assertEqual(cover_paper(spans, liars=3), span(2, 5) + ((0, 2), (0, 1)))

    def test_none_has_no_cover(self):
        self.assertEqual(cover_paper(()), (None, None, (), ()))
        self.assertEqual(cover_paper(spans_of((None, 2), (None, 1), (0, 7))), span(0, 1) + ((0, 1, 2), (0, 1, 2)))
        self.assertEqual(cover_paper(spans_of((None, 2), (None, 1))), span(None, 1) + ((), (0, 1)))
        self.assertEqual(cover_paper(spans_of((1, None), (0, None))), span(1, None) + ((0, 1), ()))
        self.assertEqual(cover_paper(spans_of((0, 1)), liars=1), (None, None, (), ()))

    def test_alike_spans(self):
        spans = spans_of((0, 1), (0, 1), (0, 1))
        self.assertEqual(cover_paper(spans), span(0, 1) + ((0, 1, 2), (0, 1, 2)))


if __name__ == "__main__":
    unittest.main()
