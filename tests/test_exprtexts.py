"""[7]: the texts of expressions."""

import random
import re
import unittest

from lentshelf.errors import BadText, LentError
from lentshelf.exprtexts import read_expr, show_expr
from lentshelf.expressions import depth
from samples import WORDS, chance_expr, left_chain, right_chain, spoilt

SIGNS = "0179xX(+-* )_.,sa\n"


def is_text(text):
    """Whether this is an expression's text, told otherwise than by reading it from the left."""
    shape = ""
    for token in re.findall(r"x?[0-9]+|[()]| [+*-] |.", text, re.DOTALL):
        if re.fullmatch(r"0|[1-9][0-9]{0,5}|x[0-7]", token):
            shape += "E"
        elif token in (" + ", " - ", " * "):
            shape += "o"
        else:
            shape += token
    for turn in range(20):
        shape = shape.replace("(EoE)", "E")
    return shape == "E"


class TestShow(unittest.TestCase):
    def test_told_ones(self):
        self.assertEqual(show_expr(("num", 0)), "0")
        self.assertEqual(show_expr(("num", 999999)), "999999")
        self.assertEqual(show_expr(("given", 0)), "x0")
        self.assertEqual(show_expr(("given", 7)), "x7")
        self.assertEqual(show_expr(("sum", ("given", 3), ("num", 10))), "(x3 + 10)")
        self.assertEqual(show_expr(("less", ("num", 1), ("given", 2))), "(1 - x2)")
        self.assertEqual(show_expr(("times", ("num", 1), ("num", 2))), "(1 * 2)")
        self.assertEqual(
            show_expr(("times", ("sum", ("given", 0), ("num", 3)), ("less", ("num", 0), ("given", 1)))),
            "((x0 + 3) * (0 - x1))")

    def test_deeper_ones_have_a_text_too(self):
        chance = random.Random(70)
        for deep in (21, 22, 40):
            text = show_expr(left_chain(chance, deep))
            self.assertTrue(text.startswith("(" * deep))
            self.assertTrue(show_expr(right_chain(chance, deep)).endswith(")" * deep))

    def test_unlike_ones_have_unlike_texts(self):
        chance = random.Random(71)
        exprs = {chance_expr(chance, 4) for turn in range(3000)}
        self.assertEqual(len({show_expr(expr) for expr in exprs}), len(exprs))


class TestRead(unittest.TestCase):
    def refused(self, text):
        with self.assertRaises(BadText) as caught:
            read_expr(text)
        self.assertEqual(caught.exception.row, 0)
        self.assertIs(caught.exception.row.__class__, int)
        self.assertIsInstance(caught.exception, LentError)

    def test_told_ones(self):
        self.assertEqual(read_expr("0"), ("num", 0))
        self.assertEqual(read_expr("999999"), ("num", 999999))
        self.assertEqual(read_expr("x7"), ("given", 7))
        self.assertEqual(read_expr("(x3 + 10)"), ("sum", ("given", 3), ("num", 10)))
        self.assertEqual(read_expr("(1 - x2)"), ("less", ("num", 1), ("given", 2)))
        self.assertEqual(read_expr("(1 * 2)"), ("times", ("num", 1), ("num", 2)))
        self.assertEqual(read_expr("((1 + 2) - (3 * x4))"),
                         ("less", ("sum", ("num", 1), ("num", 2)), ("times", ("num", 3), ("given", 4))))

    def test_all_short_nums_and_givens(self):
        for k in list(range(1200)) + [9999, 10000, 99999, 100000, 999998, 999999]:
            self.assertEqual(read_expr(str(k)), ("num", k))
        for i in range(8):
            self.assertEqual(read_expr(f"x{i}"), ("given", i))

    def test_read_again(self):
        chance = random.Random(72)
        for turn in range(800):
            expr = chance_expr(chance, 8)
            self.assertEqual(read_expr(show_expr(expr)), expr)

    def test_chains_20_deep_are_read_and_deeper_ones_not(self):
        chance = random.Random(73)
        for chain in (left_chain, right_chain):
            for deep in range(21):
                expr = chain(chance, deep)
                self.assertEqual(depth(expr), deep)
                self.assertEqual(read_expr(show_expr(expr)), expr)
            for deep in (21, 22, 23, 50, 300):
                self.refused(show_expr(chain(chance, deep)))

    def test_20_brackets_amid_others(self):
        chance = random.Random(74)
        for word in WORDS:
            for deep in (19, 20):
                one = (word, right_chain(chance, deep), left_chain(chance, 3))
                other = (word, left_chain(chance, 3), left_chain(chance, deep))
                for expr in (one, other):
                    if deep == 19:
                        self.assertEqual(read_expr(show_expr(expr)), expr)
                    else:
                        self.refused(show_expr(expr))

    def test_many_brackets_that_are_not_within_one_another(self):
        expr = ("num", 1)
        for turn in range(9):
            expr = ("sum", expr, expr)
        self.assertEqual(read_expr(show_expr(expr)), expr)

    def test_brackets_never_shut(self):
        for many in list(range(1, 45)) + [100, 999, 1000, 1001, 3000, 5999, 6000]:
            self.refused("(" * many)
            self.refused("(" * many + "1")
            self.refused("((" + "(" * many + "1 + 1)")
            self.refused("(1 + " * many)
            self.refused("(1 + " * many + "1")
            self.refused(")" * many)
            self.refused("1" + ")" * many)
        self.refused("(" * 3000 + ")" * 3000)
        self.refused("((" * 1500 + "1" + "))" * 1500)
        self.refused("(" * 1500 + "1" + " + 1)" * 900)

    def test_nums_that_are_none(self):
        for text in ("00", "01", "007", "000000", "0123456", "1000000", "9999999", "1" * 20, "9" * 4300, "9" * 4301,
                     "1" * 6000, "0" * 6000, "1_000", "1 000", "1,000", "1.0", "1e3", "0x1", "-1", "+1", "- 1", "-0"):
            self.refused(text)
            self.refused(f"({text} + 1)")
            self.refused(f"(1 * {text})")

    def test_givens_that_are_none(self):
        for text in ("x", "x8", "x9", "x10", "x00", "x01", "x70", "X1", "y1", "x 1", "xx1", "x-1", "x+1", "x_1", "1x",
                     "x1x", "x" * 6000, "x" + "1" * 5999, "x(1)"):
            self.refused(text)
            self.refused(f"({text} - 1)")
            self.refused(f"(1 - {text})")

    def test_other_texts(self):
        for text in ("", " ", "\n", "()", "(1)", "(x1)", "((1 + 2))", "1 + 2", "(1 + 2", "1 + 2)", "(1+2)", "(1 +2)",
                     "(1+ 2)", "(1  + 2)", "(1 +  2)", "( 1 + 2)", "(1 + 2 )", " (1 + 2)", "(1 + 2) ", "(1 + 2)\n",
                     "\n(1 + 2)", "(1 + 2)(1 + 2)", "(1 + 2)3", "(1 + 2) + 3", "(1 + 2 + 3)", "(1 / 2)", "(1 ** 2)",
                     "(1 + + 2)", "(+ 2)", "(1 + )", "( + )", "(1 - -2)", "(1 x 2)", "[1 + 2]", "{1 + 2}", "sum", "a",
                     "num", "A", "_", "(1 & 2)", "1\n", "x1\n", "x1 ", " x1", "~", "(1 + 2)~", "\"1\"", "(1, 2)",
                     "(1\n+\n2)", "(1 + 2))", "((1 + 2)", "(1 plus 2)"):
            with self.subTest(text=text):
                self.assertFalse(is_text(text))
                self.refused(text)

    def test_each_place_spoilt(self):
        texts = ["0", "10", "999999", "x0", "x7", "(1 + 2)", "(x1 - 10)", "((0 * x3) + 205)", "(x1 - (x2 * x3))",
                 "((1 + 2) * (3 - x4))"]
        let_by = 0
        for text in texts:
            self.assertTrue(is_text(text))
            for other in spoilt(text, SIGNS):
                if is_text(other):
                    self.assertEqual(show_expr(read_expr(other)), other)
                    let_by += 1
                else:
                    self.refused(other)
        self.assertGreater(let_by, 100)

    def test_chance_texts_spoilt(self):
        chance = random.Random(75)
        for turn in range(40):
            for other in spoilt(show_expr(chance_expr(chance, 4)), "8( )+"):
                if is_text(other):
                    self.assertEqual(show_expr(read_expr(other)), other)
                else:
                    self.refused(other)

    def test_asked_again(self):
        self.assertEqual(read_expr("(1 + x2)"), ("sum", ("num", 1), ("given", 2)))
        self.refused("(1 + x8)")
        self.refused("((1 + x2)")
        self.assertEqual(read_expr("(1 + x2)"), ("sum", ("num", 1), ("given", 2)))
        self.assertEqual(show_expr(("sum", ("num", 1), ("given", 2))), "(1 + x2)")


if __name__ == "__main__":
    unittest.main()
