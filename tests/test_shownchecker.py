"""[51], [52]: what EVENTS SHOW, looked at."""

import random
import unittest
from fractions import Fraction

from ledclocks.errors import NoPaper
from ledclocks.showing import shown_times
from ledclocks.shownchecker import lets_shown
from tests.test_showing import MARK, SLEWS, history_of, some_histories
from tests.things import bent, bent_twice, number_of, odd_things, pair_of, refusal_of, world_of

HISTORY = history_of(("bo", (0, 1), MARK), ("ann", (5, 1), MARK), ("bo", (4, 1), MARK), ("bo", (4, 1), MARK),
                     ("ann", (6, 1), MARK))
SHOWN = ((9, 1), (5, 1), (13, 1), (13, 1), (6, 1))


def plain_fraction(thing):
    if type(thing) is not tuple or len(thing) != 2 or not type(thing[0]) is type(thing[1]) is int or thing[1] <= 0:
        return False
    return Fraction(*thing).denominator == thing[1]


def oracle(history, thing, slew):
    """True, or the word and the place by [51]."""
    if type(thing) is not tuple or not all([plain_fraction(each) for each in thing]):
        return ("shape", -1)
    if len(thing) != len(history[1]):
        return ("many", len(thing))
    slew = number_of(slew)
    for k, (name, stamp, deed) in enumerate(history[1]):
        ahead = [x for x in range(k) if history[1][x][0] == name]
        if ahead:
            gone = number_of(stamp) - number_of(history[1][ahead[-1]][1])
            on = number_of(thing[k]) - number_of(thing[ahead[-1]])
            if on < (1 - slew) * gone:
                return ("slow", k)
            if on > (1 + slew) * gone:
                return ("fast", k)
    return True


class TestLetsShown(unittest.TestCase):
    def check(self, history, thing, slew):
        wanted = oracle(history, thing, slew)
        if wanted is True:
            self.assertIs(lets_shown(history, thing, slew=slew), True)
            return "fits"
        self.assertEqual(repr(refusal_of(lets_shown, history, thing, slew=slew)), repr((NoPaper,) + wanted), thing)
        return wanted[0]

    def refused(self, thing, word, at, **named):
        self.assertEqual(repr(refusal_of(lets_shown, HISTORY, thing, **named)), repr((NoPaper, word, at)))

    def test_first_ones_may_be_any(self):
        for by in (0, -9, Fraction(7, 3)):
            thing = world_of([by, by + 5, by + 4, by + 4, by + 6])
            for slew in SLEWS:
                self.assertIs(lets_shown(HISTORY, thing, slew=slew), True)
        self.assertIs(lets_shown(HISTORY, SHOWN), True)
        self.assertIs(lets_shown(history_of(), ()), True)

    def test_just_as_slow_and_as_fast_as_slew_lets(self):
        for on, slew, word in ((2, (1, 2), None), (6, (1, 2), None), (4, (0, 1), None), (3, (1, 4), None),
                               (5, (1, 4), None), (Fraction(199, 100), (1, 2), "slow"),
                               (Fraction(601, 100), (1, 2), "fast"), (Fraction(399, 100), (0, 1), "slow"),
                               (Fraction(401, 100), (0, 1), "fast"), (Fraction(4, 99), (98, 99), None),
                               (0, (98, 99), "slow"), (-4, (98, 99), "slow"), (8, (98, 99), "fast")):
            thing = world_of([9, 5, 9 + on, 9 + on, 6])
            if word is None:
                self.assertIs(lets_shown(HISTORY, thing, slew=slew), True)
            else:
                self.refused(thing, word, 2, slew=slew)

    def test_where_the_stamp_stands_still_it_does(self):
        self.refused(world_of([9, 5, 13, Fraction(131, 10), 6]), "fast", 3)
        self.refused(world_of([9, 5, 13, Fraction(129, 10), 6]), "slow", 3)

    def test_each_word(self):
        for thing in (list(SHOWN), None, 5, (9, 5, 13, 13, 6), SHOWN[:4] + ((2, 2),), SHOWN[:4] + ((True, 1),),
                      SHOWN[:4] + (None,), SHOWN[:4] + ([6, 1],), "", (SHOWN,)):
            self.refused(thing, "shape", -1)
        for many in (0, 1, 4, 6, 9):
            self.refused((SHOWN * 2)[:many], "many", many)
        self.refused(world_of([9, 5, 9, 9, 6]), "slow", 2)
        self.refused(world_of([9, 5, 16, 16, 6]), "fast", 2)
        self.refused(world_of([9, 5, 13, 13, 5]), "slow", 4)
        self.refused(world_of([9, 5, 13, 13, 7]), "fast", 4)

    def test_of_several_the_first_one(self):
        self.refused(SHOWN + ((2, 2),), "shape", -1)
        self.refused(world_of([9, 5, 0, 99, 0])[:4], "many", 4)
        self.refused(world_of([9, 5, 0, 99, 0]), "slow", 2)
        self.refused(world_of([9, 5, 99, 0, 0]), "fast", 2)
        self.refused(world_of([9, 5, 13, 0, 99]), "slow", 3)
        self.refused(world_of([9, 5, 13, 99, 0]), "fast", 3)

    def test_slew_left_out_is_a_half(self):
        self.assertIs(lets_shown(HISTORY, world_of([9, 5, 11, 11, Fraction(15, 2) - 1])), True)
        self.refused(world_of([9, 5, Fraction(109, 10), 11, 6]), "slow", 2)
        self.assertIs(lets_shown(slew=(1, 2), thing=SHOWN, history=HISTORY), True)
        with self.assertRaises(TypeError):
            lets_shown(HISTORY, SHOWN, (1, 2))

    def test_odd_things(self):
        for thing in odd_things():
            self.check(HISTORY, thing, (1, 2))
            self.check(history_of(), thing, (1, 2))
            self.check(history_of(("bo", (0, 1), MARK)), (thing,), (1, 2))

    def test_spoilt_at_every_place_once_and_twice(self):
        rng = random.Random(51)
        words = []
        for history in some_histories(511, 6):
            slew = rng.choice(SLEWS)
            shown = shown_times(history, slew=slew)
            self.assertEqual(self.check(history, shown, slew), "fits")
            for thing in list(bent(shown)) + list(bent_twice(rng, shown, 10)):
                words.append(self.check(history, thing, slew))
        self.assertGreater(words.count("many"), 5)

    def test_shown_by_others(self):
        rng = random.Random(52)
        words = []
        for history in some_histories(512, 12):
            for turn in range(12 if history[1] else 0):
                slew = rng.choice(SLEWS)
                shown = list(shown_times(history, slew=slew))
                for spoil in range(rng.randint(1, 2)):
                    k = rng.randrange(len(shown))
                    shown[k] = pair_of(number_of(shown[k]) + Fraction(rng.randint(-9, 9), rng.randint(1, 60)))
                words.append(self.check(history, tuple(shown), rng.choice((slew, rng.choice(SLEWS)))))
        for word in ("fits", "slow", "fast"):
            self.assertGreater(words.count(word), 50, word)

    def test_whoever_showed_it_it_never_goes_back(self):
        rng = random.Random(53)
        seen = 0
        for history in some_histories(513, 12):
            for turn in range(10 if history[1] else 0):
                last = {}
                shown = []
                for name, stamp, deed in history[1]:
                    before, elder = last.get(name, (number_of(stamp), Fraction(rng.randint(-9, 9))))
                    gone = number_of(stamp) - before
                    shown.append(elder + gone * Fraction(rng.randint(50, 151), 100))
                    last[name] = (number_of(stamp), shown[-1])
                if refusal_of(lets_shown, history, world_of(shown)) is None:
                    seen += 1
                    for name in last:
                        row = [each for event, each in zip(history[1], shown) if event[0] == name]
                        self.assertEqual(row, sorted(row))
        self.assertGreater(seen, 30)


if __name__ == "__main__":
    unittest.main()
