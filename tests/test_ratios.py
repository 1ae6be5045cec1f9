import itertools
import math
import random
import unittest
from fractions import Fraction

from hideworth.ratios import below, common, divisor, minus, over, plus, ratio, shared_divisor, times
from tests.asking import asked, refused

GREAT = 10 ** 30 - 1
NUMBERS = (0, 1, -1, 2, -2, 6, -6, 15, 35, -36, 97, 10 ** 9 + 7, 2 ** 64, GREAT, -GREAT, GREAT // 3, -(GREAT // 9),
           10 ** 29, -(10 ** 29))
FRACTIONS = tuple(sorted({Fraction(top, bottom) for top in NUMBERS for bottom in NUMBERS if bottom > 0}))


def pair(fraction):
    return (fraction.numerator, fraction.denominator)


class Ratios(unittest.TestCase):
    def assert_fraction(self, told, awaited):
        self.assertIs(type(told), tuple)
        self.assertEqual([type(number) for number in told], [int, int])
        self.assertEqual(told, pair(awaited))

    def test_divisor(self):
        for one, other in itertools.product(NUMBERS, NUMBERS):
            with self.subTest(one=one, other=other):
                told = asked(self, divisor, one, other)
                self.assertIs(type(told), int)
                self.assertEqual(told, math.gcd(one, other))

    def test_divisor_at_its_edges(self):
        self.assertEqual(divisor(0, 0), 0)
        self.assertEqual(divisor(0, -12), 12)
        self.assertEqual(divisor(-12, 0), 12)
        self.assertEqual(divisor(-12, -18), 6)
        self.assertEqual(divisor(12, -18), 6)
        self.assertEqual(divisor(GREAT, -GREAT), GREAT)

    def test_divisor_of_any_size(self):
        self.assertEqual(divisor(6 ** 3000, -(15 ** 2000)), 3 ** 2000)

    def test_ratio(self):
        for top, bottom in itertools.product(NUMBERS, NUMBERS):
            if bottom != 0:
                with self.subTest(top=top, bottom=bottom):
                    self.assert_fraction(asked(self, ratio, top, bottom), Fraction(top, bottom))

    def test_ratio_at_its_edges(self):
        self.assertEqual(ratio(0, 5), (0, 1))
        self.assertEqual(ratio(0, -5), (0, 1))
        self.assertEqual(ratio(6, -4), (-3, 2))
        self.assertEqual(ratio(-6, -4), (3, 2))
        self.assertEqual(ratio(-GREAT, GREAT), (-1, 1))

    def test_ratio_refuses_a_bottom_of_0(self):
        for top in NUMBERS:
            refused(self, "NoNumber", ratio, top, 0)

    def test_sums_of_chosen_ones(self):
        self.assertEqual(plus((1, 6), (1, 3)), (1, 2))
        self.assertEqual(plus((1, 2), (-1, 2)), (0, 1))
        self.assertEqual(minus((1, 6), (2, 3)), (-1, 2))
        self.assertEqual(minus((2, 3), (2, 3)), (0, 1))
        self.assertEqual(times((2, 3), (-3, 4)), (-1, 2))
        self.assertEqual(times((0, 1), (-3, 4)), (0, 1))
        self.assertEqual(over((2, 3), (-4, 3)), (-1, 2))
        self.assertEqual(over((0, 1), (-4, 3)), (0, 1))

    def test_sums(self):
        chance = random.Random(4)
        chosen = chance.sample(FRACTIONS, 24) + [Fraction(0), Fraction(1), Fraction(-1), Fraction(-1, GREAT)]
        for one, other in itertools.product(chosen, chosen):
            with self.subTest(one=one, other=other):
                self.assert_fraction(asked(self, plus, pair(one), pair(other)), one + other)
                self.assert_fraction(asked(self, minus, pair(one), pair(other)), one - other)
                self.assert_fraction(asked(self, times, pair(one), pair(other)), one * other)
                if other != 0:
                    self.assert_fraction(asked(self, over, pair(one), pair(other)), one / other)

    def test_over_refuses_0(self):
        for one in FRACTIONS:
            refused(self, "NoNumber", over, pair(one), (0, 1))

    def test_below(self):
        chance = random.Random(5)
        chosen = chance.sample(FRACTIONS, 30) + [Fraction(0), Fraction(1, GREAT), Fraction(-1, GREAT)]
        for one, other in itertools.product(chosen, chosen):
            with self.subTest(one=one, other=other):
                self.assertIs(asked(self, below, pair(one), pair(other)), one < other)

    def test_below_both_ways_round(self):
        close = ((GREAT - 1, GREAT), (GREAT - 2, GREAT - 1))
        self.assertIs(below(close[1], close[0]), True)
        self.assertIs(below(close[0], close[1]), False)
        self.assertIs(below((-1, 2), (-1, 3)), True)
        self.assertIs(below((-1, 3), (-1, 2)), False)
        for one in FRACTIONS:
            self.assertIs(below(pair(one), pair(one)), False)

    def test_common(self):
        self.assertEqual(asked(self, common, [(1, 2), (-5, 6), (0, 1), (3, 4)]), ([6, -10, 0, 9], 12))
        self.assertEqual(asked(self, common, [(0, 1)]), ([0], 1))
        self.assertEqual(asked(self, common, [(7, 5), (2, 5)]), ([7, 2], 5))

    def test_shared_divisor(self):
        self.assertEqual(asked(self, shared_divisor, [12, 0, -18]), 6)
        self.assertEqual(asked(self, shared_divisor, [0, 0]), 0)
        self.assertEqual(asked(self, shared_divisor, [0, 5]), 5)
        self.assertEqual(asked(self, shared_divisor, [4, 9, 6]), 1)


if __name__ == "__main__":
    unittest.main()
