"""[23]: tables, and the polynomials of their entries' bits."""

import itertools
import math
import random
import unittest

from lentshelf.tables import bits, polynomials

MODULI = [2, 3, 4, 10, 97, 2000, 1000000]


def entry_bit(k, table, bit, at):
    """This bit of the entry that the bits tell, those of a first, the lowest first; 0 beyond the table."""
    half = len(at) // 2
    a = sum([sign << place for place, sign in enumerate(at[:half])])
    b = sum([sign << place for place, sign in enumerate(at[half:])])
    if a >= k or b >= k:
        return 0
    return table[a * k + b] // 2 ** bit % 2


def built(n, k, table):
    """Each term's number by what is there at all choices of its places."""
    many = 2 if k == 2 else 4
    told = []
    for bit in range(many // 2):
        terms = []
        for size in range(many + 1):
            for places in itertools.combinations(range(many), size):
                number = 0
                for chosen in itertools.product((0, 1), repeat=size):
                    at = [0] * many
                    for place, sign in zip(places, chosen, strict=True):
                        at[place] = sign
                    number += (-1) ** (size - sum(chosen)) * entry_bit(k, table, bit, at)
                if number % n:
                    terms.append((number % n, places))
        told.append(tuple(sorted(terms, key=lambda term: term[1])))
    return tuple(told)


def chance_table(chance, k):
    return tuple([chance.randrange(k) for entry in range(k * k)])


class TablesTest(unittest.TestCase):
    def same(self, n, k, table):
        told = polynomials(n, k, table)
        self.assertEqual(told, built(n, k, table))
        self.assertEqual(len(told), bits(k))
        for bit, terms in enumerate(told):
            self.assertIs(terms.__class__, tuple)
            for number, places in terms:
                self.assertIs(number.__class__, int)
                self.assertTrue(0 < number < n)
                self.assertTrue(all([one < other for one, other in zip(places, places[1:])]))
            for at in itertools.product((0, 1), repeat=2 * bits(k)):
                much = sum([number * math.prod([at[place] for place in places]) for number, places in terms])
                self.assertEqual(much % n, entry_bit(k, table, bit, at))


class TestBits(unittest.TestCase):
    def test_each(self):
        self.assertEqual([bits(k) for k in (2, 3, 4)], [1, 2, 2])
        self.assertEqual([bits(k).__class__ for k in (2, 3, 4)], [int, int, int])


class TestTwoValues(TablesTest):
    def test_told_ones(self):
        for table, asked in (
                ((0, 0, 0, 0), ()),
                ((1, 1, 1, 1), ((1, ()),)),
                ((0, 0, 0, 1), ((1, (0, 1)),)),
                ((0, 1, 1, 1), ((1, (0,)), (9, (0, 1)), (1, (1,)))),
                ((0, 1, 1, 0), ((1, (0,)), (8, (0, 1)), (1, (1,)))),
                ((1, 1, 1, 0), ((1, ()), (9, (0, 1)))),
                ((0, 1, 0, 0), ((9, (0, 1)), (1, (1,)))),
                ((0, 0, 1, 0), ((1, (0,)), (9, (0, 1)))),
                ((0, 0, 1, 1), ((1, (0,)),)),
                ((0, 1, 0, 1), ((1, (1,)),)),
                ((1, 0, 0, 0), ((1, ()), (9, (0,)), (1, (0, 1)), (9, (1,))))):
            self.assertEqual(polynomials(10, 2, table), (asked,))

    def test_terms_of_rest_0_are_left_out(self):
        self.assertEqual(polynomials(2, 2, (0, 1, 1, 0)), (((1, (0,)), (1, (1,))),))
        self.assertEqual(polynomials(2, 2, (1, 0, 0, 1)), (((1, ()), (1, (0,)), (1, (1,))),))
        self.assertEqual(polynomials(3, 2, (0, 1, 1, 0)), (((1, (0,)), (1, (0, 1)), (1, (1,))),))

    def test_all_tables(self):
        for table in itertools.product((0, 1), repeat=4):
            for n in MODULI:
                self.same(n, 2, table)


class TestThreeValues(TablesTest):
    def test_the_first_value(self):
        # Bit 0 is there where a is 1 and b isn't beyond: a0 (1 - a1) (1 - b0 b1).
        table = (0, 0, 0, 1, 1, 1, 2, 2, 2)
        low = ((1, (0,)), (9, (0, 1)), (1, (0, 1, 2, 3)), (9, (0, 2, 3)))
        high = ((9, (0, 1)), (1, (0, 1, 2, 3)), (1, (1,)), (9, (1, 2, 3)))
        self.assertEqual(polynomials(10, 3, table), (low, high))

    def test_one_entry(self):
        # Where both are 2: a1 (1 - a0) b1 (1 - b0).
        table = (0,) * 8 + (2,)
        terms = ((1, (0, 1, 2, 3)), (9, (0, 1, 3)), (9, (1, 2, 3)), (1, (1, 3)))
        self.assertEqual(polynomials(10, 3, table), ((), terms))
        self.assertEqual(polynomials(10, 3, (0,) * 8 + (1,)), (terms, ()))
        self.assertEqual(polynomials(2, 3, (0,) * 8 + (1,))[0],
                         ((1, (0, 1, 2, 3)), (1, (0, 1, 3)), (1, (1, 2, 3)), (1, (1, 3))))

    def test_entries_beyond_count_as_0(self):
        for table in ((1,) * 9, (2,) * 9, (2, 1, 2, 1, 2, 1, 2, 1, 2)):
            for bit, terms in enumerate(polynomials(97, 3, table)):
                for at in itertools.product((0, 1), repeat=4):
                    if at[:2] == (1, 1) or at[2:] == (1, 1):
                        much = sum([number * math.prod([at[place] for place in places]) for number, places in terms])
                        self.assertEqual(much % 97, 0)

    def test_each_entry_by_itself(self):
        for at, entry in itertools.product(range(9), (1, 2)):
            for n in MODULI:
                self.same(n, 3, (0,) * at + (entry,) + (0,) * (8 - at))

    def test_chance(self):
        chance = random.Random(2300)
        for turn in range(150):
            self.same(chance.choice(MODULI), 3, chance_table(chance, 3))


class TestFourValues(TablesTest):
    def test_the_first_and_the_second_value(self):
        first = tuple([a for a in range(4) for b in range(4)])
        second = tuple([b for a in range(4) for b in range(4)])
        for n in MODULI:
            self.assertEqual(polynomials(n, 4, first), (((1, (0,)),), ((1, (1,)),)))
            self.assertEqual(polynomials(n, 4, second), (((1, (2,)),), ((1, (3,)),)))

    def test_the_sum_by_four(self):
        table = tuple([(a + b) % 4 for a in range(4) for b in range(4)])
        # By rests of 2: a0 + b0, and a1 + b1 + a0 b0.
        self.assertEqual(polynomials(2, 4, table), (((1, (0,)), (1, (2,))), ((1, (0, 2)), (1, (1,)), (1, (3,)))))

    def test_the_same_entry_everywhere(self):
        one = ((1, ()),)
        for entry, asked in ((0, ((), ())), (1, (one, ())), (2, ((), one)), (3, (one, one))):
            self.assertEqual(polynomials(10, 4, (entry,) * 16), asked)

    def test_each_entry_by_itself(self):
        for at, entry in itertools.product(range(16), (1, 2, 3)):
            self.same(10, 4, (0,) * at + (entry,) + (0,) * (15 - at))

    def test_chance(self):
        chance = random.Random(2301)
        for turn in range(150):
            self.same(chance.choice(MODULI), 4, chance_table(chance, 4))


class TestAskedAgain(unittest.TestCase):
    def test_the_same_is_told(self):
        chance = random.Random(2302)
        asked = [(chance.choice(MODULI), k, chance_table(chance, k)) for k in (2, 3, 4) * 8]
        ahead = [polynomials(*one) for one in asked]
        self.assertEqual([polynomials(*one) for one in reversed(asked)], ahead[::-1])


if __name__ == "__main__":
    unittest.main()
