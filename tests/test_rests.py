"""[4]: inverses and powers."""

import math
import random
import unittest

from lentshelf.rests import inverse, power

MODULI = [2, 3, 4, 5, 6, 8, 9, 10, 12, 16, 30, 97, 210, 1009, 1024, 2000, 65536, 510510, 720720,
          999979, 999983, 999999, 1000000]
GREATEST = 10 ** 18 - 1


def numbers_near_multiples(n):
    """Whole numbers of either sign, of up to 18 figures, close to multiples of n."""
    for times in (0, 1, 2, 3, 1000, GREATEST // n - 1):
        for off in (-3, -2, -1, 0, 1, 2, 3):
            yield times * n + off
            yield -times * n + off


class TestInverse(unittest.TestCase):
    def check(self, n, k):
        told = inverse(n, k)
        if math.gcd(n, k) != 1:
            self.assertIsNone(told, (n, k))
            return
        self.assertIs(told.__class__, int)
        self.assertTrue(0 <= told < n, (n, k, told))
        self.assertEqual(k * told % n, 1, (n, k, told))

    def test_told_ones(self):
        self.assertEqual(inverse(7, 3), 5)
        self.assertEqual(inverse(10, 3), 7)
        self.assertEqual(inverse(10, -3), 3)
        self.assertEqual(inverse(10, 13), 7)
        self.assertEqual(inverse(12, 11), 11)
        self.assertEqual(inverse(1000000, 3), 666667)
        self.assertEqual(inverse(1000000, 999999), 999999)
        self.assertEqual(inverse(1000000, -1), 999999)

    def test_none_where_there_is_a_common_divisor(self):
        for n, k in ((2, 0), (2, 4), (10, 5), (10, -5), (10, 4), (9, 3), (12, 8), (1000000, 2),
                     (1000000, 15), (1000000, 0), (7, 0), (7, 7), (7, -7), (999983, 999983)):
            self.assertIsNone(inverse(n, k), (n, k))

    def test_all_of_small_n(self):
        for n in range(2, 80):
            for k in range(-2 * n - 1, 2 * n + 2):
                self.check(n, k)

    def test_near_multiples(self):
        for n in MODULI:
            for k in numbers_near_multiples(n):
                self.check(n, k)

    def test_eighteen_figures(self):
        chance = random.Random(4)
        for n in MODULI:
            for k in (GREATEST, -GREATEST, 10 ** 17, -(10 ** 17)):
                self.check(n, k)
            for turn in range(100):
                self.check(n, chance.randint(-GREATEST, GREATEST))

    def test_all_inverses_by_a_great_n(self):
        n = 1000000
        for k in range(1, n, 997):
            self.check(n, k)

    def test_an_inverse_of_an_inverse(self):
        for n in MODULI:
            for k in range(1, min(n, 300)):
                told = inverse(n, k)
                if told is not None:
                    self.assertEqual(inverse(n, told), k)


class TestPower(unittest.TestCase):
    def check(self, n, k, e):
        told = power(n, k, e)
        self.assertIs(told.__class__, int)
        self.assertEqual(told, pow(k, e, n), (n, k, e))

    def test_told_ones(self):
        self.assertEqual(power(10, 3, 4), 1)
        self.assertEqual(power(10, 2, 5), 2)
        self.assertEqual(power(7, -2, 3), 6)
        self.assertEqual(power(1000000, 10, 5), 100000)
        self.assertEqual(power(1000000, 10, 6), 0)

    def test_exponent_0(self):
        for n in MODULI:
            for k in (0, 1, -1, n, -n, n - 1, 5 * n, GREATEST, -GREATEST):
                self.assertEqual(power(n, k, 0), 1)

    def test_exponent_1(self):
        for n in MODULI:
            for k in numbers_near_multiples(n):
                self.assertEqual(power(n, k, 1), k % n)

    def test_0_to_a_power(self):
        for n in MODULI:
            self.assertEqual(power(n, 0, 0), 1)
            self.assertEqual(power(n, 0, 1), 0)
            self.assertEqual(power(n, 0, GREATEST), 0)

    def test_all_of_small_ones(self):
        for n in range(2, 14):
            for k in range(-n - 1, 2 * n):
                told = 1
                for e in range(0, 20):
                    self.assertEqual(power(n, k, e), told % n, (n, k, e))
                    told = told * k

    def test_exponents_near_the_greatest(self):
        chance = random.Random(5)
        for n in MODULI:
            for k in (2, -2, n - 1, n + 1, GREATEST, -GREATEST, chance.randint(-GREATEST, GREATEST)):
                for e in (10 ** 18 - 1, 10 ** 18 - 2, 10 ** 18 - 3, 2 ** 59, 2 ** 59 - 1):
                    self.check(n, k, e)

    def test_chance(self):
        chance = random.Random(6)
        for turn in range(2000):
            n = chance.choice(MODULI + [chance.randint(2, 1000000)])
            self.check(n, chance.randint(-GREATEST, GREATEST), chance.randint(0, GREATEST))


class TestAskedAgain(unittest.TestCase):
    def test_the_same_is_told(self):
        asked = [(n, k) for n in MODULI for k in (-5, 0, 1, 7, 123456789)]
        ahead = [(inverse(n, k), power(n, k, 77)) for n, k in asked]
        behind = [(inverse(n, k), power(n, k, 77)) for n, k in reversed(asked)]
        self.assertEqual(ahead, behind[::-1])


if __name__ == "__main__":
    unittest.main()
