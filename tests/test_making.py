"""[12], [13], [14], and of [3] what the program made of an expression does."""

import itertools
import random
import unittest

from lentshelf.errors import LentError, TooMany
from lentshelf.expressions import depth, words, worth
from lentshelf.making import bring_alone, bring_by, how_many, program_of
from lentshelf.programs import deeds_back, look, turned_back
from lentshelf.running import run
from samples import WORDS, chance_expr, chance_rests, left_chain, right_chain

MODULI = [2, 3, 4, 10, 12, 97, 720720, 999983, 1000000]
X0, X1, X2 = ("given", 0), ("given", 1), ("given", 2)
ORDERS = list(itertools.permutations((0, 1, 2)))


def add(shelf, number, gs, ts):
    return ("add", shelf, number, gs, ts)


def put_down(told, n, expr, S, B, C, by, back):
    """Puts down the row deed by deed, forth or back: nothing is turned back behind."""
    word = expr[0]
    ts = (B,) if by else ()
    sign = -1 if back else 1
    if word == "num":
        told.append(add(S, sign * expr[1] % n, (), ts))
    elif word == "given":
        told.append(add(S, sign % n, (expr[1],), ts))
    elif word == "times":
        one = (n, expr[1], S, C, B, True)
        other = (n, expr[2], C, B, S, by)
        first, second = (one, other) if back else (other, one)
        for part, turned in ((first, False), (second, False), (first, True), (second, True)):
            put_down(told, *part, turned)
    else:
        parts = [(expr[1], back), (expr[2], back != (word == "less"))]
        for part, turned in reversed(parts) if back else parts:
            put_down(told, n, part, S, B, C, by, turned)


def row_of(n, expr, S, B, C, by):
    told = []
    put_down(told, n, expr, S, B, C, by, False)
    return tuple(told)


def full(word, deep):
    """The word so deep on both sides, over given 0."""
    if deep == 0:
        return X0
    return (word, full(word, deep - 1), full(word, deep - 1))


def at_the_bounds():
    """Times of 39 words, 8 deep, with the most deeds that so many words can have."""
    expr = full("times", 4)
    for turn in range(4):
        expr = ("times", X1, expr)
    return expr


class TestSingles(unittest.TestCase):
    def test_num(self):
        for S, B, C in itertools.permutations((0, 1, 2, 5, 8), 3):
            self.assertEqual(bring_by(10, ("num", 7), S, B, C), (add(S, 7, (), (B,)),))
            self.assertEqual(bring_alone(10, ("num", 7), S, B, C), (add(S, 7, (), ()),))

    def test_the_rest_of_a_num_stands_in_the_deed(self):
        for n, number, rest in ((10, 10, 0), (10, 23, 3), (2, 999999, 1), (2, 2, 0), (97, 97, 0), (97, 98, 1),
                                (999983, 999999, 16), (1000000, 999999, 999999), (10, 0, 0), (10, 9, 9)):
            self.assertEqual(bring_by(n, ("num", number), 0, 1, 2), (add(0, rest, (), (1,)),))
            self.assertEqual(bring_alone(n, ("num", number), 0, 1, 2), (add(0, rest, (), ()),))

    def test_given(self):
        for given in range(8):
            for S, B, C in itertools.permutations((0, 3, 8)):
                self.assertEqual(bring_by(10, ("given", given), S, B, C), (add(S, 1, (given,), (B,)),))
                self.assertEqual(bring_alone(10, ("given", given), S, B, C), (add(S, 1, (given,), ()),))


class TestToldRows(unittest.TestCase):
    def test_sum(self):
        expr = ("sum", X0, ("num", 13))
        self.assertEqual(bring_by(10, expr, 0, 1, 2), (add(0, 1, (0,), (1,)), add(0, 3, (), (1,))))
        self.assertEqual(bring_alone(10, expr, 0, 1, 2), (add(0, 1, (0,), ()), add(0, 3, (), ())))

    def test_less(self):
        expr = ("less", ("num", 13), X0)
        self.assertEqual(bring_by(10, expr, 2, 0, 1), (add(2, 3, (), (0,)), add(2, 9, (0,), (0,))))
        self.assertEqual(bring_alone(10, expr, 2, 0, 1), (add(2, 3, (), ()), add(2, 9, (0,), ())))
        self.assertEqual(bring_alone(10, ("less", X0, ("num", 20)), 2, 0, 1), (add(2, 1, (0,), ()), add(2, 0, (), ())))

    def test_times(self):
        expr = ("times", X0, X1)
        self.assertEqual(bring_by(10, expr, 0, 1, 2), (
            add(2, 1, (1,), (1,)), add(0, 1, (0,), (2,)), add(2, 9, (1,), (1,)), add(0, 9, (0,), (2,))))
        self.assertEqual(bring_alone(10, expr, 0, 1, 2), (
            add(2, 1, (1,), ()), add(0, 1, (0,), (2,)), add(2, 9, (1,), ()), add(0, 9, (0,), (2,))))

    def test_less_within_less(self):
        expr = ("less", X0, ("less", X1, X2))
        self.assertEqual(bring_alone(10, expr, 0, 1, 2), (add(0, 1, (0,), ()), add(0, 1, (2,), ()), add(0, 9, (1,), ())))
        expr = ("less", ("less", X0, X1), X2)
        self.assertEqual(bring_by(10, expr, 0, 1, 2), (
            add(0, 1, (0,), (1,)), add(0, 9, (1,), (1,)), add(0, 9, (2,), (1,))))

    def test_times_within_less(self):
        expr = ("less", X0, ("times", X1, ("num", 3)))
        self.assertEqual(bring_alone(10, expr, 0, 1, 2), (
            add(0, 1, (0,), ()),
            add(0, 1, (1,), (2,)), add(2, 3, (), ()), add(0, 9, (1,), (2,)), add(2, 7, (), ())))

    def test_times_within_times(self):
        # The first part is brought by spare 2, with spare 1, and within it by 2 to 1, then by 1 to 0.
        expr = ("times", ("times", X0, X1), X2)
        inner = (add(1, 1, (1,), (2,)), add(0, 1, (0,), (1,)), add(1, 9, (1,), (2,)), add(0, 9, (0,), (1,)))
        inner_back = (add(0, 1, (0,), (1,)), add(1, 1, (1,), (2,)), add(0, 9, (0,), (1,)), add(1, 9, (1,), (2,)))
        self.assertEqual(bring_alone(10, expr, 0, 1, 2),
                         (add(2, 1, (2,), ()),) + inner + (add(2, 9, (2,), ()),) + inner_back)
        self.assertEqual(bring_by(10, expr, 0, 1, 2),
                         (add(2, 1, (2,), (1,)),) + inner + (add(2, 9, (2,), (1,)),) + inner_back)
        # The second part is brought to spare 2, alone with spares 1 and 0: within it to 0, then by 0 to 2.
        expr = ("times", X0, ("times", X1, X2))
        inner = (add(0, 1, (2,), ()), add(2, 1, (1,), (0,)), add(0, 9, (2,), ()), add(2, 9, (1,), (0,)))
        inner_back = (add(2, 1, (1,), (0,)), add(0, 1, (2,), ()), add(2, 9, (1,), (0,)), add(0, 9, (2,), ()))
        self.assertEqual(bring_alone(10, expr, 0, 1, 2),
                         inner + (add(0, 1, (0,), (2,)),) + inner_back + (add(0, 9, (0,), (2,)),))


class TestRows(unittest.TestCase):
    def same(self, n, expr, S, B, C):
        self.assertEqual(bring_by(n, expr, S, B, C), row_of(n, expr, S, B, C, True))
        self.assertEqual(bring_alone(n, expr, S, B, C), row_of(n, expr, S, B, C, False))

    def test_each_pair_of_words_in_each_order(self):
        for word, inner in itertools.product(WORDS, repeat=2):
            part = (inner, X1, ("num", 25))
            for expr in ((word, part, X2), (word, X2, part), (word, part, (inner, part, X0))):
                for S, B, C in ORDERS:
                    self.same(10, expr, S, B, C)

    def test_chance(self):
        chance = random.Random(1200)
        for turn in range(300):
            S, B, C = chance.sample(range(9), 3)
            self.same(chance.choice(MODULI), chance_expr(chance, 5), S, B, C)

    def test_leaning_to_either_side(self):
        chance = random.Random(1201)
        for turn in range(8):
            for deep in (7, 8):
                self.same(97, left_chain(chance, deep), *ORDERS[turn % 6])
                self.same(97, right_chain(chance, deep), *ORDERS[turn % 6])

    def test_what_is_told_is_tuples_of_whole_numbers(self):
        for told in (bring_by(2, ("times", X0, ("num", 3)), 0, 1, 2), bring_alone(2, ("less", X0, X1), 0, 1, 2)):
            self.assertIs(told.__class__, tuple)
            for deed in told:
                self.assertEqual([part.__class__ for part in deed], [str, int, int, tuple, tuple])
                self.assertEqual([part.__class__ for part in deed[3] + deed[4]], [int] * len(deed[3] + deed[4]))


class TestHowMany(unittest.TestCase):
    def test_told_ones(self):
        self.assertEqual(how_many(("num", 999999)), 1)
        self.assertEqual(how_many(X0), 1)
        self.assertEqual(how_many(("sum", X0, X1)), 2)
        self.assertEqual(how_many(("less", X0, X1)), 2)
        self.assertEqual(how_many(("times", X0, X1)), 4)
        self.assertEqual(how_many(("times", ("sum", X0, X1), X2)), 6)
        self.assertEqual(how_many(("times", X2, ("less", X0, ("num", 3)))), 6)
        self.assertEqual(how_many(("sum", ("times", X0, X1), ("times", X0, X1))), 8)
        self.assertEqual(how_many(("times", ("times", X0, X1), ("times", X0, X1))), 16)

    def test_as_the_rows_have_it(self):
        chance = random.Random(1202)
        for turn in range(300):
            expr = chance_expr(chance, 6)
            n = chance.choice(MODULI)
            many = how_many(expr)
            self.assertIs(many.__class__, int)
            self.assertEqual(len(bring_by(n, expr, 1, 2, 0)), many)
            self.assertEqual(len(bring_alone(n, expr, 1, 2, 0)), many)

    def test_at_most_4_to_the_power_of_the_depth(self):
        chance = random.Random(1203)
        for turn in range(300):
            expr = chance_expr(chance, 8)
            self.assertLessEqual(how_many(expr), 4 ** depth(expr))
        for deep in range(6):
            self.assertEqual(how_many(full("times", deep)), 4 ** deep)
            self.assertEqual(how_many(full("sum", deep)), 2 ** deep)
            self.assertEqual(how_many(full("less", deep)), 2 ** deep)

    def test_where_the_row_is_too_long_to_be_made(self):
        expr = X0
        for turn in range(60):
            expr = ("times", X1, expr)
        # 1 deed, then twice as many and two more, each time.
        self.assertEqual(how_many(expr), 3 * 2 ** 60 - 2)
        with self.assertRaises(TooMany):
            program_of(97, 2, expr)


class TestProgramOf(unittest.TestCase):
    def refused(self, most, n, givens, expr, *told):
        with self.assertRaises(TooMany) as caught:
            program_of(n, givens, expr, *told)
        self.assertEqual(caught.exception.most, most)
        self.assertIsInstance(caught.exception, LentError)

    def test_three_shelves_alone_to_shelf_0(self):
        chance = random.Random(1204)
        for turn in range(200):
            n, expr = chance.choice(MODULI), chance_expr(chance, 5)
            told = program_of(n, 8, expr)
            self.assertEqual(told, (n, 8, 3, row_of(n, expr, 0, 1, 2, False)))
            self.assertIs(look(told), True)

    def test_as_many_givens_as_told(self):
        for givens in range(9):
            self.assertEqual(program_of(10, givens, ("num", 3)), (10, givens, 3, (add(0, 3, (), ()),)))
        for givens in range(3, 9):
            self.assertEqual(program_of(10, givens, X2), (10, givens, 3, (add(0, 1, (2,), ()),)))

    def test_just_as_many_as_most(self):
        chance = random.Random(1205)
        for turn in range(100):
            expr = chance_expr(chance, 4)
            many = how_many(expr)
            told = program_of(97, 8, expr)
            self.assertEqual(program_of(97, 8, expr, many), told)
            self.assertEqual(program_of(97, 8, expr, many + 1), told)
            if many > 1:
                self.refused(many - 1, 97, 8, expr, many - 1)
                self.refused(1, 97, 8, expr, 1)

    def test_one_deed(self):
        self.assertEqual(program_of(10, 1, X0, 1), (10, 1, 3, (add(0, 1, (0,), ()),)))
        self.refused(1, 10, 1, ("sum", X0, X0), 1)

    def test_5000_if_nothing_is_said(self):
        # 4,096 of times, and a sum of 904 more.
        expr = full("times", 6)
        for part in (full("sum", 9), full("sum", 8), full("sum", 7), full("sum", 3)):
            expr = ("sum", expr, part)
        self.assertEqual(how_many(expr), 5000)
        self.assertEqual(len(program_of(10, 1, expr)[3]), 5000)
        self.refused(5000, 10, 1, ("sum", expr, X0))
        self.refused(5000, 10, 1, ("sum", expr, X0), 5000)
        self.assertEqual(len(program_of(10, 1, ("sum", expr, X0), 5001)[3]), 5001)

    def test_at_the_bounds(self):
        expr = at_the_bounds()
        self.assertEqual((words(expr), depth(expr)), (39, 8))
        self.assertEqual(how_many(expr), 4126)
        self.assertEqual(program_of(97, 2, expr), (97, 2, 3, row_of(97, expr, 0, 1, 2, False)))


class TestWhatIsBrought(unittest.TestCase):
    """Of [3]: the one shelf gets more by just the worth, all others come back, whatever lies there."""

    def brings(self, n, expr, givens, contents, S, B, C):
        shelves = len(contents)
        much = worth(n, expr, givens)
        for row, more in ((bring_alone(n, expr, S, B, C), much), (bring_by(n, expr, S, B, C), much * contents[B])):
            program = (n, len(givens), shelves, row)
            asked = list(contents)
            asked[S] = (asked[S] + more) % n
            self.assertIs(look(program), True)
            told = run(program, givens, contents)
            self.assertEqual(told, tuple(asked))
            self.assertEqual(run(turned_back(program), givens, told), contents)
            self.assertEqual(turned_back(program)[3], deeds_back(n, row))
            asked[S] = (contents[S] - more) % n
            self.assertEqual(run(turned_back(program), givens, contents), tuple(asked))

    def test_whatever_lies_there(self):
        for n in (2, 3):
            for word, inner in itertools.product(WORDS, repeat=2):
                expr = (word, (inner, X0, X1), ("less", ("num", 5), X1))
                for rests in itertools.product(range(n), repeat=5):
                    self.brings(n, expr, rests[:2], rests[2:], 0, 1, 2)

    def test_in_each_order(self):
        chance = random.Random(1206)
        expr = ("times", ("less", X0, ("times", X1, X1)), ("times", ("sum", X0, ("num", 7)), X2))
        for S, B, C in ORDERS:
            for turn in range(10):
                self.brings(12, expr, chance_rests(chance, 12, 3), chance_rests(chance, 12, 3), S, B, C)

    def test_among_nine_shelves(self):
        chance = random.Random(1207)
        for turn in range(200):
            n = chance.choice(MODULI)
            S, B, C = chance.sample(range(9), 3)
            givens, contents = chance_rests(chance, n, 8), chance_rests(chance, n, 9)
            self.brings(n, chance_expr(chance, 5), givens, contents, S, B, C)

    def test_leaning_to_either_side(self):
        chance = random.Random(1208)
        for turn in range(10):
            for chain in (left_chain, right_chain):
                expr = chain(chance, 8)
                n = chance.choice(MODULI)
                self.brings(n, expr, chance_rests(chance, n, 8), chance_rests(chance, n, 3), *ORDERS[turn % 6])

    def test_the_program(self):
        chance = random.Random(1209)
        for turn in range(200):
            n, expr = chance.choice(MODULI), chance_expr(chance, 6)
            if how_many(expr) > 5000:
                continue
            program = program_of(n, 8, expr)
            givens, contents = chance_rests(chance, n, 8), chance_rests(chance, n, 3)
            told = run(program, givens, contents)
            self.assertEqual(told, ((contents[0] + worth(n, expr, givens)) % n,) + contents[1:])
            self.assertEqual(run(turned_back(program), givens, told), contents)

    def test_at_the_bounds(self):
        chance = random.Random(1210)
        self.brings(999983, at_the_bounds(), chance_rests(chance, 999983, 2), chance_rests(chance, 999983, 3), 2, 0, 1)


class TestAskedAgain(unittest.TestCase):
    def test_the_same_is_told(self):
        chance = random.Random(1211)
        exprs = [chance_expr(chance, 4) for turn in range(30)]

        def told(expr):
            return (bring_by(97, expr, 0, 1, 2), bring_alone(97, expr, 2, 0, 1), how_many(expr), program_of(97, 8, expr))

        ahead = [told(expr) for expr in exprs]
        self.assertEqual([told(expr) for expr in reversed(exprs)], ahead[::-1])


if __name__ == "__main__":
    unittest.main()
