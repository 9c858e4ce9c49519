"""The fractions, against Python's own."""

import math
import random
import unittest
from fractions import Fraction

from vesselriddle.ratios import common_measure, is_more, lesser, lowest, minus, over, plus, times


def pair(x):
    return (x.numerator, x.denominator)


def chance_fraction(chance, bits):
    return Fraction(chance.getrandbits(bits), 1 + chance.getrandbits(bits))


class CommonMeasureTest(unittest.TestCase):
    def test_small_numbers(self):
        for a in range(40):
            for b in range(40):
                self.assertEqual(common_measure(a, b), math.gcd(a, b))

    def test_long_numbers(self):
        chance = random.Random(1)
        for bits in (100, 470, 480, 490, 600, 1000, 5000, 20000):
            for shared in (0, 1, 30, bits // 2, bits):
                for other in (1, bits // 3, bits - 100, bits - 1, bits):
                    measure = 1 + chance.getrandbits(shared) if shared else 1
                    a = measure * chance.getrandbits(bits)
                    b = measure * chance.getrandbits(max(other, 1))
                    self.assertTrue(common_measure(a, b) == math.gcd(a, b))
                    self.assertTrue(common_measure(b, a) == math.gcd(a, b))

    def test_long_numbers_of_a_plain_form(self):
        # Neighbours, powers and the numbers that take Euclid the most steps.
        fibonacci = [1, 1]
        while len(fibonacci) < 3000:
            fibonacci.append(fibonacci[-1] + fibonacci[-2])
        pairs = [(fibonacci[-1], fibonacci[-2]), (fibonacci[2999], fibonacci[1999]), (fibonacci[2400], fibonacci[1800])]
        for k in (479, 480, 481, 600, 2000):
            for j in (k, k - 1, k // 2, 1):
                pairs += [(2 ** k, 2 ** j), (2 ** k - 1, 2 ** j - 1), (2 ** k + 1, 2 ** j - 1), (3 ** k, 6 ** j),
                          (2 ** k, 2 ** k - 2 ** j), (7 ** k, 0)]
        for a, b in pairs:
            self.assertTrue(common_measure(a, b) == math.gcd(a, b))
            self.assertTrue(common_measure(b, a) == math.gcd(a, b))


class FractionTest(unittest.TestCase):
    def test_lowest(self):
        for above in range(30):
            for below in range(1, 30):
                self.assertEqual(lowest(above, below), pair(Fraction(above, below)))

    def test_all_that_is_reckoned(self):
        chance = random.Random(2)
        for k in range(1500):
            bits = chance.choice((0, 1, 2, 3, 5, 60, 700))
            x = chance_fraction(chance, bits)
            y = chance_fraction(chance, chance.choice((0, 2, bits)))
            self.assertEqual(plus(pair(x), pair(y)), pair(x + y))
            self.assertEqual(times(pair(x), pair(y)), pair(x * y))
            self.assertEqual(minus(pair(max(x, y)), pair(min(x, y))), pair(max(x, y) - min(x, y)))
            self.assertEqual(is_more(pair(x), pair(y)), x > y)
            self.assertEqual(lesser(pair(x), pair(y)), pair(min(x, y)))
            if y > 0:
                self.assertEqual(over(pair(x), pair(y)), pair(x / y))


if __name__ == "__main__":
    unittest.main()
