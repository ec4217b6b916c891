"""[5]: roots."""

import math
import unittest

from lentshelf.roots import is_root, root

GREAT = [997, 1009, 1155, 1331, 1680, 1729, 1800, 1849, 1861, 1993, 1997, 1999, 2000, 1001, 1024]


def is_root_by_the_words(n, w, m):
    if pow(w, m) % n != 1:
        return False
    return all([math.gcd(pow(w, i) - 1, n) == 1 for i in range(1, m)])


def roots_by_the_words(n, m):
    return [w for w in range(n) if is_root_by_the_words(n, w, m)]


class TestIsRoot(unittest.TestCase):
    def test_told_ones(self):
        self.assertIs(is_root(7, 2, 3), True)
        self.assertIs(is_root(7, 4, 3), True)
        self.assertIs(is_root(7, 3, 6), True)
        self.assertIs(is_root(7, 2, 6), False)
        self.assertIs(is_root(7, 6, 3), False)
        self.assertIs(is_root(15, 14, 2), True)
        self.assertIs(is_root(15, 4, 2), False)
        self.assertIs(is_root(15, 11, 2), False)

    def test_a_power_of_1_is_not_enough(self):
        self.assertIs(is_root(5, 4, 4), False)
        self.assertIs(is_root(5, 1, 2), False)
        self.assertIs(is_root(8, 7, 2), False)
        self.assertIs(is_root(65, 8, 4), True)
        self.assertIs(is_root(65, 12, 4), False)

    def test_order_1(self):
        for n in (2, 3, 4, 10, 1999, 2000):
            for w in range(min(n, 50)):
                self.assertIs(is_root(n, w, 1), w == 1)

    def test_rest_0_is_none(self):
        for n in list(range(2, 60)) + GREAT:
            for m in range(1, 13):
                self.assertIs(is_root(n, 0, m), False)

    def test_all_rests_of_small_n(self):
        for n in range(2, 70):
            for m in range(1, 13):
                for w in range(n):
                    self.assertIs(is_root(n, w, m), is_root_by_the_words(n, w, m), (n, w, m))

    def test_rests_of_great_n(self):
        for n in GREAT:
            for m in range(1, 13):
                found = roots_by_the_words(n, m)
                for w in found[:3] + found[-3:]:
                    self.assertIs(is_root(n, w, m), True, (n, w, m))
                for w in range(0, n, 37):
                    self.assertIs(is_root(n, w, m), w in found, (n, w, m))


class TestRoot(unittest.TestCase):
    def check(self, n, m):
        found = roots_by_the_words(n, m)
        told = root(n, m)
        self.assertEqual(told, found[0] if found else None, (n, m))
        if told is not None:
            self.assertIs(told.__class__, int)

    def test_told_ones(self):
        self.assertEqual(root(7, 3), 2)
        self.assertEqual(root(7, 6), 3)
        self.assertEqual(root(5, 4), 2)
        self.assertEqual(root(13, 12), 2)
        self.assertEqual(root(15, 2), 14)
        self.assertEqual(root(91, 3), 9)
        self.assertEqual(root(1999, 2), 1998)

    def test_none(self):
        for n, m in ((2, 2), (2000, 2), (7, 4), (7, 12), (15, 4), (9, 3), (21, 3), (1024, 2), (3, 3)):
            self.assertIsNone(root(n, m), (n, m))

    def test_order_1(self):
        for n in list(range(2, 200)) + GREAT:
            self.assertEqual(root(n, 1), 1)

    def test_order_2_is_there_just_where_n_is_odd(self):
        for n in range(2, 2001, 7):
            self.assertEqual(root(n, 2), n - 1 if n % 2 == 1 else None)

    def test_all_of_small_n(self):
        for n in range(2, 130):
            for m in range(1, 13):
                self.check(n, m)

    def test_great_n(self):
        for n in GREAT:
            for m in range(1, 13):
                self.check(n, m)

    def test_what_the_document_says_follows(self):
        for n in (7, 13, 61, 91, 133, 793, 1861):
            for m in range(1, 13):
                w = root(n, m)
                if w is None:
                    continue
                self.assertEqual(math.gcd(m, n), 1)
                for i in range(1, m):
                    self.assertEqual(sum([pow(w, i * j, n) for j in range(1, m + 1)]) % n, 0)


class TestAskedAgain(unittest.TestCase):
    def test_the_same_is_told(self):
        asked = [(n, m) for n in (2, 7, 91, 1999) for m in (1, 2, 3, 12)]
        ahead = [root(n, m) for n, m in asked]
        behind = [root(n, m) for n, m in reversed(asked)]
        self.assertEqual(ahead, behind[::-1])


if __name__ == "__main__":
    unittest.main()
