"""[3], [10], [11]: FRACTIONS and their sums."""

import random
import unittest
from fractions import Fraction
from math import gcd

from ledclocks.ratios import added, is_below, is_fraction, less, parted, ratio, times
from tests.things import number_of, odd_things, pair_of

BIG = 10 ** 30
WHOLES = ((0, 1), (1, 1), (-1, 1), (2, 1), (-7, 1), (99, 1))
SMALL = ((1, 2), (-1, 2), (1, 3), (-1, 3), (2, 3), (3, 2), (-3, 2), (99, 98), (98, 99), (-98, 99), (9999, 9998))
LARGE = ((BIG + 1, BIG), (BIG, BIG + 1), (-BIG, BIG + 1), (1, BIG), (-1, BIG), (BIG, 1), (-BIG, 1), (BIG - 1, BIG))
ALL = WHOLES + SMALL + LARGE


class TestIsFraction(unittest.TestCase):
    def test_by_the_common_divisor(self):
        for a in range(-30, 31):
            for b in range(-30, 31):
                self.assertIs(is_fraction((a, b)), b > 0 and gcd(a, b) == 1, (a, b))

    def test_nought_is_parted_by_one(self):
        self.assertIs(is_fraction((0, 1)), True)
        for b in (-2, -1, 0, 2, 3, 10 ** 40):
            self.assertIs(is_fraction((0, b)), False, b)

    def test_large(self):
        self.assertIs(is_fraction((10 ** 59, 10 ** 59 + 1)), True)
        self.assertIs(is_fraction((-(10 ** 59), 10 ** 59 + 1)), True)
        self.assertIs(is_fraction((2 * 10 ** 58, 10 ** 59 + 2)), False)

    def test_truths_within(self):
        for thing in ((True, 1), (1, True), (False, 1), (0, True), (True, True), (2, True), (True, 2)):
            self.assertIs(is_fraction(thing), False, thing)

    def test_other_kinds(self):
        for thing in ([1, 2], [[1, 2]], (1,), (1, 2, 3), (1, 2, 1), ((1, 2),), ("1", 2), (1, "2"), ("1", "2"), "12",
                      "1/2", 1, 0, None, True, (), [], (None, 1), (1, None), ((1, 1), 1), (1, (1, 1)), ([1], 2)):
            self.assertIs(is_fraction(thing), False, thing)

    def test_odd_things(self):
        for thing in odd_things():
            self.assertIs(is_fraction(thing), False, thing)

    def test_by_name(self):
        self.assertIs(is_fraction(thing=(1, 2)), True)


class TestRatio(unittest.TestCase):
    def test_of_small_numbers(self):
        for a in range(-24, 25):
            for b in range(-24, 25):
                if b != 0:
                    self.check(a, b)

    def test_of_large_numbers(self):
        for a, b in ((BIG, BIG), (-BIG, BIG), (BIG, -BIG), (6 * BIG, 4), (4, -6 * BIG), (0, -BIG), (BIG + 1, -BIG)):
            self.check(a, b)
        self.assertEqual(ratio(0, -5), (0, 1))

    def test_by_name(self):
        self.assertEqual(ratio(a=6, b=-4), (-3, 2))
        self.assertEqual(ratio(b=6, a=4), (2, 3))

    def check(self, a, b):
        told = ratio(a, b)
        self.assertIs(type(told), tuple)
        self.assertEqual(told, pair_of(Fraction(a, b)), (a, b))
        self.assertEqual([type(part) for part in told], [int, int])


class TestSums(unittest.TestCase):
    def check(self, deed, oracle, one, other):
        told = deed(one, other)
        self.assertIs(type(told), tuple)
        self.assertIs(is_fraction(told), True, (one, other))
        self.assertEqual(told, pair_of(oracle(number_of(one), number_of(other))), (one, other))

    def test_all_with_all(self):
        for one in ALL:
            for other in ALL:
                self.check(added, lambda x, y: x + y, one, other)
                self.check(less, lambda x, y: x - y, one, other)
                self.check(times, lambda x, y: x * y, one, other)
                if other != (0, 1):
                    self.check(parted, lambda x, y: x / y, one, other)

    def test_thirty_figures(self):
        rng = random.Random(11)
        for trial in range(200):
            one = pair_of(Fraction(rng.randint(-BIG, BIG), rng.randint(1, BIG)))
            other = pair_of(Fraction(rng.randint(1, BIG) * rng.choice((1, -1)), rng.randint(1, BIG)))
            self.check(added, lambda x, y: x + y, one, other)
            self.check(less, lambda x, y: x - y, one, other)
            self.check(times, lambda x, y: x * y, one, other)
            self.check(parted, lambda x, y: x / y, one, other)

    def test_told_ones(self):
        self.assertEqual(added((1, 2), (1, 2)), (1, 1))
        self.assertEqual(added((1, 6), (1, 3)), (1, 2))
        self.assertEqual(less((1, 2), (1, 2)), (0, 1))
        self.assertEqual(less((1, 3), (1, 2)), (-1, 6))
        self.assertEqual(times((2, 3), (-3, 2)), (-1, 1))
        self.assertEqual(times((2, 3), (0, 1)), (0, 1))
        self.assertEqual(parted((1, 2), (-1, 4)), (-2, 1))
        self.assertEqual(parted((0, 1), (-5, 4)), (0, 1))

    def test_by_name(self):
        for deed, told in ((added, (5, 6)), (less, (1, 6)), (times, (1, 6)), (parted, (3, 2))):
            self.assertEqual(deed(one=(1, 2), other=(1, 3)), told)
            self.assertEqual(deed(other=(1, 3), one=(1, 2)), told)


class TestIsBelow(unittest.TestCase):
    def test_all_with_all(self):
        for one in ALL:
            for other in ALL:
                self.assertIs(is_below(one, other), number_of(one) < number_of(other), (one, other))

    def test_alike_ones_are_not_below(self):
        for one in ALL:
            self.assertIs(is_below(one, one), False)

    def test_neighbours(self):
        for n in (1, 2, 98, BIG):
            self.assertIs(is_below((n, n + 1), (n + 1, n + 2)), True)
            self.assertIs(is_below((n + 1, n + 2), (n, n + 1)), False)
            self.assertIs(is_below((-n, n + 1), (-n - 1, n + 2)), False)
            self.assertIs(is_below((-n - 1, n + 2), (-n, n + 1)), True)

    def test_by_name(self):
        self.assertIs(is_below(other=(2, 1), one=(1, 1)), True)
        self.assertIs(is_below(one=(2, 1), other=(1, 1)), False)


if __name__ == "__main__":
    unittest.main()
