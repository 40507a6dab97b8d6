"""ratios.py: [12.1]."""

import random
import unittest
from fractions import Fraction

from spansay.errors import NotAllowed
from spansay.ratios import compare, is_ratio, lowest, plus, times

GREAT = 10 ** 40 + 7


def told(fraction):
    return (fraction.numerator, fraction.denominator)


def random_number(rng):
    return rng.choice([rng.randint(-12, 12), rng.randint(-1000, 1000), rng.randint(-GREAT, GREAT)])


def random_fraction(rng):
    return Fraction(random_number(rng), random_number(rng) or 1)


class RatiosTest(unittest.TestCase):
    def test_examples(self):
        found = lowest(6, -4), plus((1, 2), (1, 3)), times((2, 3), (3, 4))
        self.assertEqual(found, ((-3, 2), (5, 6), (1, 2)))
        self.assertEqual((is_ratio((2, 4)), compare((1, 3), (2, 5))), (False, -1))

    def test_lowest(self):
        for a in range(-12, 13):
            for b in range(-12, 13):
                if b:
                    self.assertEqual(lowest(a, b), told(Fraction(a, b)))
        rng = random.Random(161)
        for _ in range(500):
            a, b = random_number(rng), random_number(rng) or 1
            self.assertEqual(lowest(a, b), told(Fraction(a, b)))

    def test_nothing_above(self):
        for b in (1, -1, 7, -7, GREAT, -GREAT):
            self.assertEqual(lowest(0, b), (0, 1))

    def test_nothing_below(self):
        for a in (0, 1, -1, GREAT, -GREAT):
            with self.assertRaises(NotAllowed):
                lowest(a, 0)

    def test_great_integers(self):
        self.assertEqual(lowest(6 * GREAT, -4 * GREAT), (-3, 2))
        self.assertEqual(lowest(GREAT * 3 ** 200, 3 ** 201), (GREAT, 3) if GREAT % 3 else lowest(GREAT // 3, 1))
        self.assertTrue(is_ratio((2 ** 300, 3 ** 300)))
        self.assertFalse(is_ratio((2 * 5 ** 300, 2 * 3 ** 300)))

    def test_which_pairs_are_ratios(self):
        for a in range(-10, 11):
            for b in range(-10, 11):
                expected = b >= 1 and told(Fraction(a, b)) == (a, b)
                self.assertIs(is_ratio((a, b)), expected, (a, b))
        for pair in ((0, 1), (1, 1), (-1, 1), (-3, 2), (GREAT, 1), (-GREAT, 2)):
            self.assertIs(is_ratio(pair), True)
        for pair in ((0, 0), (0, 2), (0, -1), (1, 0), (1, -1), (-1, -1), (2, 2), (3, -2), (GREAT, GREAT), (-4, 2)):
            self.assertIs(is_ratio(pair), False)

    def test_sums_and_products(self):
        rng = random.Random(162)
        for _ in range(2000):
            one, other = random_fraction(rng), random_fraction(rng)
            self.assertEqual(plus(told(one), told(other)), told(one + other))
            self.assertEqual(times(told(one), told(other)), told(one * other))

    def test_results_without_common_factors(self):
        self.assertEqual(plus((1, 6), (1, 3)), (1, 2))
        self.assertEqual(plus((1, 2), (-1, 2)), (0, 1))
        self.assertEqual(plus((1, 2), (1, 2)), (1, 1))
        self.assertEqual(times((2, 3), (3, 2)), (1, 1))
        self.assertEqual(times((0, 1), (-7, 3)), (0, 1))
        self.assertEqual(times((-2, 3), (-3, 4)), (1, 2))

    def test_compare(self):
        rng = random.Random(163)
        counts = {}
        for _ in range(2000):
            one, other = random_fraction(rng), random_fraction(rng)
            if rng.random() < 0.1:
                other = one
            expected = (one > other) - (one < other)
            counts[expected] = counts.get(expected, 0) + 1
            self.assertEqual(compare(told(one), told(other)), expected)
        self.assertEqual(len(counts), 3)
        self.assertEqual(compare((-1, 2), (-1, 3)), -1)
        self.assertEqual(compare((GREAT + 1, GREAT), (GREAT + 2, GREAT + 1)), 1)


if __name__ == "__main__":
    unittest.main()
