"""[15]: papers of expressions, their words, how deep they are."""

import random
import unittest

from lentshelf.expressions import depth, words
from lentshelf.papers import paper_of
from samples import WORDS, chance_expr, left_chain, right_chain

ONE = ("one",)


def same_words(paper, expr):
    """Whether the paper goes along the expression, word by word."""
    if expr[0] in ("num", "given"):
        return paper == ONE
    return (len(paper) == 3 and paper[0] == expr[0]
            and same_words(paper[1], expr[1]) and same_words(paper[2], expr[2]))


class TestPaperOf(unittest.TestCase):
    def test_singles(self):
        for number in (0, 1, 999999):
            self.assertEqual(paper_of(("num", number)), ONE)
        for given in range(8):
            self.assertEqual(paper_of(("given", given)), ONE)

    def test_each_word(self):
        for word in WORDS:
            self.assertEqual(paper_of((word, ("num", 3), ("given", 0))), (word, ONE, ONE))
            self.assertEqual(paper_of((word, ("given", 3), ("num", 0))), (word, ONE, ONE))

    def test_parts_keep_their_places(self):
        expr = ("less", ("times", ("given", 0), ("num", 2)), ("given", 1))
        self.assertEqual(paper_of(expr), ("less", ("times", ONE, ONE), ONE))
        expr = ("less", ("given", 1), ("times", ("given", 0), ("num", 2)))
        self.assertEqual(paper_of(expr), ("less", ONE, ("times", ONE, ONE)))
        expr = ("times", ("sum", ("num", 1), ("less", ("num", 1), ("num", 2))), ("given", 1))
        self.assertEqual(paper_of(expr), ("times", ("sum", ONE, ("less", ONE, ONE)), ONE))

    def test_chance(self):
        chance = random.Random(1500)
        for turn in range(300):
            expr = chance_expr(chance, 8)
            self.assertTrue(same_words(paper_of(expr), expr))

    def test_leaning_to_either_side(self):
        chance = random.Random(1501)
        for deep in range(9):
            for chain in (left_chain, right_chain):
                expr = chain(chance, deep)
                self.assertTrue(same_words(paper_of(expr), expr))

    def test_alike_words_have_one_paper(self):
        one = ("sum", ("num", 1), ("times", ("given", 1), ("num", 3)))
        other = ("sum", ("given", 7), ("times", ("num", 0), ("given", 0)))
        self.assertEqual(paper_of(one), paper_of(other))

    def test_asked_again(self):
        chance = random.Random(1502)
        exprs = [chance_expr(chance, 5) for turn in range(30)]
        ahead = [paper_of(expr) for expr in exprs]
        self.assertEqual([paper_of(expr) for expr in reversed(exprs)], ahead[::-1])


class TestWordsAndDepth(unittest.TestCase):
    def test_one(self):
        self.assertEqual((words(ONE), depth(ONE)), (1, 0))

    def test_as_of_expressions(self):
        chance = random.Random(1503)
        for turn in range(100):
            expr = chance_expr(chance, 8)
            self.assertEqual(words(paper_of(expr)), words(expr))
            self.assertEqual(depth(paper_of(expr)), depth(expr))


if __name__ == "__main__":
    unittest.main()
