"""[6]: what expressions are worth, their words, how deep they are."""

import random
import unittest

from lentshelf.expressions import depth, words, worth
from samples import WORDS, chance_expr, left_chain, right_chain

MODULI = [2, 3, 10, 97, 1024, 999983, 1000000]


def whole_worth(expr, givens):
    """The worth ahead of any rest."""
    if expr[0] == "num":
        return expr[1]
    if expr[0] == "given":
        return givens[expr[1]]
    one = whole_worth(expr[1], givens)
    other = whole_worth(expr[2], givens)
    return {"sum": one + other, "less": one - other, "times": one * other}[expr[0]]


def full(deep):
    """All words so deep: 2 to the power of deep singles."""
    if deep == 0:
        return ("given", 0)
    return (WORDS[deep % 3], full(deep - 1), full(deep - 1))


class TestWorth(unittest.TestCase):
    def test_singles(self):
        self.assertEqual(worth(10, ("num", 0), ()), 0)
        self.assertEqual(worth(10, ("num", 7), ()), 7)
        self.assertEqual(worth(10, ("num", 10), ()), 0)
        self.assertEqual(worth(10, ("num", 999999), ()), 9)
        self.assertEqual(worth(1000000, ("num", 999999), ()), 999999)
        self.assertEqual(worth(2, ("num", 999999), ()), 1)
        self.assertEqual(worth(10, ("given", 0), (4,)), 4)
        self.assertEqual(worth(10, ("given", 7), (0, 1, 2, 3, 4, 5, 6, 9)), 9)

    def test_each_word(self):
        one, other = ("given", 0), ("given", 1)
        self.assertEqual(worth(10, ("sum", one, other), (7, 8)), 5)
        self.assertEqual(worth(10, ("less", one, other), (8, 3)), 5)
        self.assertEqual(worth(10, ("times", one, other), (7, 8)), 6)

    def test_less_below_0_is_a_rest(self):
        expr = ("less", ("given", 0), ("given", 1))
        self.assertEqual(worth(10, expr, (3, 8)), 5)
        self.assertEqual(worth(10, ("less", ("num", 0), ("num", 1)), ()), 9)
        self.assertEqual(worth(10, ("less", ("num", 0), ("num", 999999)), ()), 1)
        self.assertEqual(worth(1000000, ("less", ("num", 0), ("num", 999999)), ()), 1)
        self.assertEqual(worth(2, ("less", ("num", 0), ("num", 1)), ()), 1)

    def test_more_givens_than_are_named(self):
        expr = ("times", ("given", 1), ("sum", ("given", 1), ("num", 1)))
        self.assertEqual(worth(100, expr, (0, 6)), 42)
        self.assertEqual(worth(100, expr, (9, 6, 5, 4, 3, 2, 1, 0)), 42)

    def test_all_small_givens(self):
        for n in range(2, 8):
            for a in range(n):
                for b in range(n):
                    for word in WORDS:
                        expr = (word, ("given", 1), ("given", 0))
                        self.assertEqual(worth(n, expr, (a, b)), whole_worth(expr, (a, b)) % n)

    def test_chance(self):
        chance = random.Random(61)
        for turn in range(600):
            n = chance.choice(MODULI)
            givens = tuple([chance.randrange(n) for i in range(8)])
            expr = chance_expr(chance, 8)
            told = worth(n, expr, givens)
            self.assertIs(told.__class__, int)
            self.assertEqual(told, whole_worth(expr, givens) % n)

    def test_leaning_to_either_side(self):
        chance = random.Random(62)
        for turn in range(100):
            for chain in (left_chain, right_chain):
                for deep in (1, 8, 19):
                    n = chance.choice(MODULI)
                    givens = tuple([chance.randrange(n) for i in range(8)])
                    expr = chain(chance, deep)
                    self.assertEqual(worth(n, expr, givens), whole_worth(expr, givens) % n)


class TestWords(unittest.TestCase):
    def test_singles(self):
        self.assertEqual(words(("num", 999999)), 1)
        self.assertEqual(words(("num", 0)), 1)
        self.assertEqual(words(("given", 7)), 1)

    def test_each_word(self):
        for word in WORDS:
            self.assertEqual(words((word, ("num", 1), ("given", 2))), 3)
            self.assertEqual(words((word, (word, ("num", 1), ("num", 1)), ("num", 2))), 5)
            self.assertEqual(words((word, ("num", 2), (word, ("num", 1), ("num", 1)))), 5)

    def test_the_same_part_counts_each_time(self):
        part = ("times", ("given", 0), ("given", 0))
        self.assertEqual(words(("sum", part, part)), 7)
        both = ("less", ("sum", part, part), ("sum", part, part))
        self.assertEqual(words(both), 15)
        for deep in range(9):
            self.assertEqual(words(full(deep)), 2 ** (deep + 1) - 1)

    def test_chains(self):
        chance = random.Random(63)
        for deep in range(21):
            self.assertEqual(words(left_chain(chance, deep)), 2 * deep + 1)
            self.assertEqual(words(right_chain(chance, deep)), 2 * deep + 1)


class TestDepth(unittest.TestCase):
    def test_singles(self):
        self.assertEqual(depth(("num", 999999)), 0)
        self.assertEqual(depth(("given", 7)), 0)

    def test_each_word(self):
        for word in WORDS:
            small = (word, ("num", 5), ("given", 2))
            self.assertEqual(depth(small), 1)
            self.assertEqual(depth((word, small, ("num", 1))), 2)
            self.assertEqual(depth((word, ("num", 1), small)), 2)
            self.assertEqual(depth((word, small, small)), 2)

    def test_the_deeper_part_counts(self):
        chance = random.Random(64)
        for left in range(8):
            for right in range(8):
                expr = ("times", left_chain(chance, left), right_chain(chance, right))
                self.assertEqual(depth(expr), max(left, right) + 1)

    def test_chains(self):
        chance = random.Random(65)
        for deep in range(21):
            self.assertEqual(depth(left_chain(chance, deep)), deep)
            self.assertEqual(depth(right_chain(chance, deep)), deep)
        for deep in range(9):
            self.assertEqual(depth(full(deep)), deep)


class TestFortyWords(unittest.TestCase):
    def test_an_expression_at_the_bounds(self):
        chance = random.Random(66)
        expr = ("sum", left_chain(chance, 7), ("times", full(3), right_chain(chance, 3)))
        self.assertEqual(words(expr), 1 + 15 + 1 + 15 + 7)
        self.assertEqual(depth(expr), 8)
        givens = (5, 4, 3, 2, 1, 0, 9, 8)
        self.assertEqual(worth(10, expr, givens), whole_worth(expr, givens) % 10)


class TestAskedAgain(unittest.TestCase):
    def test_the_same_is_told(self):
        chance = random.Random(67)
        exprs = [chance_expr(chance, 6) for turn in range(40)]
        givens = (1, 2, 3, 4, 5, 6, 7, 8)
        ahead = [(worth(11, one, givens), words(one), depth(one)) for one in exprs]
        behind = [(worth(11, one, givens), words(one), depth(one)) for one in reversed(exprs)]
        self.assertEqual(ahead, behind[::-1])


if __name__ == "__main__":
    unittest.main()
