"""Products of forms by pairs and by points tell the same, and are refused as soon as there are too many terms."""

import itertools
import math
import random
import unittest

from lentshelf.errors import TooMany
from lentshelf.forms import form_of
from lentshelf.meeting import product_by_pairs, product_of_steps
from lentshelf.points import product_by_points
from lentshelf.products import last_steps, last_with_room, product_within
from lentshelf.steps import common, room, room_of

MODULI = (2, 3, 4, 6, 8, 9, 12, 30, 64, 97, 720, 720720, 999983, 1000000)


def chance_form(chance, n, many, terms, deep):
    return form_of(n, many, tuple([(tuple([chance.randint(0, deep) for letter in range(many)]), chance.randrange(n))
                                   for turn in range(terms)]))


def falling(x, e):
    return math.prod([x - less for less in range(e)])


class TestSteps(unittest.TestCase):
    def test_common(self):
        for one, other in itertools.product(range(1, 40), range(40)):
            self.assertEqual(common(one, other), math.gcd(one, other))

    def test_room(self):
        for n in MODULI:
            for e in range(30):
                self.assertEqual(room(n, e), n // math.gcd(n, math.factorial(e)))
            for steps in itertools.product(range(5), repeat=3):
                g = math.gcd(n, math.prod([math.factorial(e) for e in steps]))
                self.assertEqual(room_of(n, steps), n // g)

    def test_last_with_room(self):
        for n in MODULI:
            for last in range(30):
                asked = max([e for e in range(last + 1) if math.factorial(e) % n != 0])
                self.assertEqual(last_with_room(n, last), asked)

    def test_product_of_steps(self):
        for a, b in itertools.product(range(7), repeat=2):
            told = product_of_steps(a, b)
            self.assertEqual([e for e, number in told], list(range(a + b, max(a, b) - 1, -1)))
            for x in range(-3, 16):
                self.assertEqual(sum([number * falling(x, e) for e, number in told]), falling(x, a) * falling(x, b))


class TestBothWays(unittest.TestCase):
    def test_the_same(self):
        chance = random.Random(2600)
        for turn in range(250):
            n, many = chance.choice(MODULI), chance.randint(0, 4)
            deep = chance.randint(1, 6 if many < 3 else 3)
            one = chance_form(chance, n, many, chance.randint(1, 4), deep)
            other = chance_form(chance, n, many, chance.randint(1, 4), deep)
            if not one or not other:
                self.assertEqual(product_within(n, one, other, 60), ())
                continue
            asked = product_by_points(n, one, other, last_steps(n, one, other))
            self.assertEqual(product_by_pairs(n, one, other, None), asked)
            self.assertEqual(product_within(n, one, other, None), asked)
            for most in (1, len(asked) - 1, len(asked), len(asked) + 1, 60):
                self.bounded(n, one, other, most, asked)

    def bounded(self, n, one, other, most, asked):
        for way in (product_by_pairs, product_within):
            if len(asked) <= most:
                self.assertEqual(way(n, one, other, most), asked)
                continue
            with self.assertRaises(TooMany) as caught:
                way(n, one, other, most)
            self.assertEqual(caught.exception.most, most)

    def test_letters_of_one_form_alone(self):
        chance = random.Random(2601)
        for turn in range(60):
            n = chance.choice(MODULI)
            one = chance_form(chance, n, 2, 3, 3)
            other = chance_form(chance, n, 2, 3, 3)
            # The first and the third letter are the one's, the third and the second the other's.
            wide = tuple(sorted([((a, 0, b), number) for (a, b), number in one]))
            wide_other = tuple(sorted([((0, b, a), number) for (a, b), number in other]))
            if wide and wide_other:
                asked = product_by_points(n, wide, wide_other, last_steps(n, wide, wide_other))
                self.assertEqual(product_by_pairs(n, wide, wide_other, None), asked)

    def test_very_many_terms_are_not_all_made(self):
        for n in (720720, 999983):
            for e in (1, 2, 5):
                form = (((0,) * 17, 1), ((e,) * 17, 1))
                with self.assertRaises(TooMany) as caught:
                    product_within(n, form, form, 60)
                self.assertEqual(caught.exception.most, 60)

    def test_terms_that_fall_out_by_n(self):
        # By 4 at most one letter has steps above 1: of 17 letters there are 1, 17 and the number itself.
        form = (((0,) * 17, 1), ((1,) * 17, 1))
        self.assertEqual(len(product_within(4, form, form, 60)), 19)
        self.assertEqual(product_within(2, form, form, 60), (((0,) * 17, 1), ((1,) * 17, 1)))


if __name__ == "__main__":
    unittest.main()
