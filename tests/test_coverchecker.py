"""[48]: COVER PAPERS looked at."""

import itertools
import random
import unittest
from fractions import Fraction

from ledclocks.coverchecker import lets_cover
from ledclocks.errors import Lied, NoPaper
from ledclocks.majorities import by_majority, cover_paper
from tests.things import bent, bent_twice, number_of, odd_things, pair_of, refusal_of


def span(low, high):
    return (None if low is None else (low, 1), None if high is None else (high, 1))


def spans_of(*pairs):
    return tuple([span(*pair) for pair in pairs])


def is_in(pair, point):
    low, high = [number_of(end) for end in pair]
    return (low is None or low <= point) and (high is None or point <= high)


def plain_number(thing):
    return type(thing) is int


def plain_end(thing):
    if thing is None:
        return True
    if type(thing) is not tuple or len(thing) != 2 or not all([plain_number(part) for part in thing]):
        return False
    return thing[1] > 0 and pair_of(Fraction(*thing)) == thing


def plain_cover(thing):
    return type(thing) is tuple and all([plain_number(part) for part in thing])


def held_beyond(spans, end, liars, side):
    """Whether ("beyond", side) is due, looked at by points between and far off all ends."""
    known = [number_of(each) for pair in spans for each in pair if each is not None]
    known = sorted(set(known + [Fraction(0) if end is None else number_of(end)]))
    points = [known[0] - 1] + known + [known[-1] + 1]
    points = sorted(points + [(one + other) / 2 for one, other in zip(known, known[1:])])
    held = [point for point in points if len([1 for pair in spans if is_in(pair, point)]) >= len(spans) - liars]
    far = points[0] if side == 0 else points[-1]
    if end is None:
        return far not in held
    return any([point < number_of(end) if side == 0 else point > number_of(end) for point in held])


def oracle(spans, thing, liars):
    """The word and the place that [48] tells, None where a thing is let by."""
    if type(thing) is not tuple or len(thing) != 4 or not all([plain_end(thing[0]), plain_end(thing[1]),
                                                               plain_cover(thing[2]), plain_cover(thing[3])]):
        return ("shape", -1)
    for side in (0, 1):
        end, cover = thing[side], thing[2 + side]
        for k, number in enumerate(cover):
            if number not in range(len(spans)) or k > 0 and cover[k - 1] >= number:
                return ("number", (side, k))
        for k, number in enumerate(cover):
            if end is None or not is_in(spans[number], number_of(end)):
                return ("in", (side, k))
        if end is not None and len(cover) < len(spans) - liars:
            return ("few", side)
    for side in (0, 1):
        if held_beyond(spans, thing[side], liars, side):
            return ("beyond", side)
    return None


def made_spans(rng):
    rows = []
    for number in range(rng.randint(0, 6)):
        low = rng.randint(-5, 5)
        high = low + rng.randint(-1, 9)
        rows.append(span(None if rng.random() < 0.2 else low, None if rng.random() < 0.2 else high))
    return tuple(rows)


class TestLetsCover(unittest.TestCase):
    def check(self, spans, thing, liars):
        wanted = oracle(spans, thing, liars)
        if wanted is None:
            told = lets_cover(spans, thing, liars=liars)
            self.assertEqual(repr(told), repr(thing[:2]))
            # What is let by is so, whoever wrote it.
            self.assertEqual(told, by_majority(spans, liars=liars))
            return "fits"
        self.assertEqual(repr(refusal_of(lets_cover, spans, thing, liars=liars)), repr((NoPaper,) + wanted),
                         (spans, thing, liars))
        return wanted[0]

    def refused(self, spans, thing, word, at, liars=0):
        self.assertEqual(repr(refusal_of(lets_cover, spans, thing, liars=liars)), repr((NoPaper, word, at)))

    def test_papers_that_are_told(self):
        rng = random.Random(48)
        seen = 0
        for trial in range(200):
            spans = made_spans(rng)
            for liars in range(len(spans) + 2):
                try:
                    paper = cover_paper(spans, liars=liars)
                except Lied:
                    self.refused(spans, (None, None, (), ()), "beyond", 0, liars)
                    continue
                seen += 1
                self.assertEqual(self.check(spans, paper, liars), "fits")
        self.assertGreater(seen, 300)

    def test_spoilt_once_at_every_place_and_twice(self):
        rng = random.Random(49)
        words = []
        for trial in range(60):
            spans = made_spans(rng)
            liars = rng.randint(0, 2)
            if refusal_of(cover_paper, spans, liars=liars) is not None:
                continue
            paper = cover_paper(spans, liars=liars)
            for thing in list(bent(paper)) + list(bent_twice(rng, paper, 60)):
                words.append(self.check(spans, thing, liars))
        self.assertGreater(words.count("shape"), 100)

    def test_other_ends_and_covers(self):
        rng = random.Random(50)
        words = []
        ends = (None, (-2, 1), (0, 1), (1, 2), (3, 1), (6, 1))
        for trial in range(150):
            spans = made_spans(rng)[:3]
            covers = list(itertools.product(range(-1, 4), repeat=rng.randint(0, 3)))
            liars = rng.randint(0, 3)
            for turn in range(40):
                low = rng.choice(ends + tuple([pair[0] for pair in spans]))
                high = rng.choice(ends + tuple([pair[1] for pair in spans]))
                some, others = [self.cover_for(rng, spans, end, covers) for end in (low, high)]
                words.append(self.check(spans, (low, high, some, others), liars))
        for word in ("fits", "number", "in", "few", "beyond"):
            self.assertGreater(words.count(word), 60, word)

    def cover_for(self, rng, spans, end, covers):
        """Mostly what an end is IN, so that later words come to be due."""
        if rng.random() < 0.25:
            return rng.choice(covers)
        if end is None:
            return ()
        return tuple([k for k, pair in enumerate(spans) if is_in(pair, number_of(end)) and rng.random() < 0.95])

    def test_each_word_by_hand(self):
        spans = spans_of((0, 5), (3, 9), (2, 4), (20, 21))
        good = ((3, 1), (4, 1), (0, 1, 2), (0, 1, 2))
        self.assertEqual(lets_cover(spans, good, liars=1), ((3, 1), (4, 1)))
        for some, k in (((0, 1, 4), 2), ((-1, 0, 1), 0), ((0, 0, 1), 1), ((1, 0, 2), 1), ((0, 9, 9), 1)):
            self.refused(spans, good[:2] + (some, (9,)), "number", (0, k), 1)
            self.refused(spans, good[:3] + (some,), "number", (1, k), 1)
        self.refused(spans, good[:2] + ((0, 1, 3), (9,)), "in", (0, 2), 1)
        self.refused(spans, good[:2] + ((0, 1, 2), (3,)), "in", (1, 0), 1)
        self.refused(spans, (None,) + good[1:], "in", (0, 0), 1)
        self.refused(spans, good[:2] + ((0, 1), (9,)), "few", 0, 1)
        self.refused(spans, good[:2] + ((0, 1, 2), (0, 2)), "few", 1, 1)
        self.refused(spans, ((7, 2), (7, 2), (0, 1, 2), (0, 1, 2)), "beyond", 0, 1)
        self.refused(spans, ((3, 1), (7, 2), (0, 1, 2), (0, 1, 2)), "beyond", 1, 1)
        self.refused(spans, (None, (4, 1), (), (0, 1, 2)), "beyond", 0, 1)
        self.refused(spans, ((3, 1), None, (0, 1, 2), ()), "beyond", 1, 1)

    def test_of_several_the_first_one(self):
        spans = spans_of((0, 5), (3, 9))
        self.refused(spans, ((3, 1), (5, 1), (5,), [0]), "shape", -1)
        self.refused(spans, ((9, 1), (5, 1), (0, 5), (0, 1)), "number", (0, 1))
        self.refused(spans, ((9, 1), (5, 1), (0,), (7,)), "in", (0, 0))
        self.refused(spans, ((4, 1), (5, 1), (0,), (7,)), "few", 0)
        self.refused(spans, ((4, 1), (5, 1), (0, 1), (7,)), "number", (1, 0))
        self.refused(spans, ((4, 1), (4, 1), (0, 1), (0, 1)), "beyond", 0)

    def test_fewer_than_all_may_stand_where_they_are_enough(self):
        spans = spans_of((0, 5), (0, 5), (0, 5))
        self.assertEqual(lets_cover(spans, ((0, 1), (5, 1), (0, 2), (1, 2)), liars=1), ((0, 1), (5, 1)))

    def test_nothing_held(self):
        spans = spans_of((0, 1), (2, 3))
        self.refused(spans, (None, None, (), ()), "beyond", 0)
        self.refused(spans, ((0, 1), None, (0,), ()), "few", 0)
        self.refused(spans, (None, (3, 1), (), (1,)), "few", 1)

    def test_no_spans_and_more_liars_than_spans(self):
        self.assertEqual(lets_cover((), (None, None, (), ())), (None, None))
        self.refused((), ((0, 1), None, (), ()), "beyond", 0)
        self.refused((), (None, (0, 1), (), ()), "beyond", 1)
        self.refused((), (None, None, (0,), ()), "number", (0, 0))
        for liars in (1, 2, 9):
            self.assertEqual(lets_cover(spans_of((0, 1)), (None, None, (), ()), liars=liars), (None, None))
            self.refused(spans_of((0, 1)), ((0, 1), None, (0,), ()), "beyond", 0, liars)

    def test_odd_things(self):
        for thing in odd_things():
            self.refused(spans_of((0, 1)), thing, "shape", -1)
        for thing in ((True, None, (), ()), (None, None, (True,), ()), (None, None, (), (False,)),
                      ((True, 1), None, (), ()), ((2, 2), None, (), ()), ([0, 1], None, (), ()),
                      (None, None, [], ()), (None, None, (), ()) + ((),), [None, None, (), ()], (None, None, None, ())):
            self.refused(spans_of((None, None)), thing, "shape", -1)

    def test_by_name(self):
        paper = ((0, 1), (1, 1), (0,), (0,))
        self.assertEqual(lets_cover(thing=paper, spans=spans_of((0, 1))), ((0, 1), (1, 1)))
        self.assertEqual(lets_cover(liars=1, thing=(None, None, (), ()), spans=spans_of((0, 1))), (None, None))
        with self.assertRaises(TypeError):
            lets_cover(spans_of((0, 1)), paper, 0)


if __name__ == "__main__":
    unittest.main()
