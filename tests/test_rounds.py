"""[21], [22], and of [3] products by rounds: brought whatever lies there, all else comes back."""

import itertools
import math
import random
import unittest

from lentshelf.errors import LentError, NoRoot, TooMany
from lentshelf.expressions import worth
from lentshelf.making import bring_alone, how_many
from lentshelf.programs import look, turned_back
from lentshelf.rounds import product, rounds
from lentshelf.running import run
from samples import chance_deed, chance_expr, chance_rests

X0, X1, X2 = ("given", 0), ("given", 1), ("given", 2)
# n, m and the least root of order m.
ROOTS = [(2, 1, 1), (10, 1, 1), (3, 2, 2), (15, 2, 14), (7, 2, 6), (7, 3, 2), (13, 3, 3), (91, 3, 9), (5, 4, 2),
         (13, 4, 5), (11, 5, 3), (31, 5, 2), (7, 6, 3), (13, 12, 2), (1993, 12, None), (1999, 9, None)]


def add(shelf, number, gs, ts):
    return ("add", shelf, number, gs, ts)


def least_root(n, m):
    """The least root of order m, by all rests and plain powers, or None."""
    for w in range(n):
        if pow(w, m, n) == 1 and all([math.gcd(pow(w, i, n) - 1, n) == 1 for i in range(1, m)]):
            return w
    return None


def undone(n, deed):
    if deed[0] == "scale":
        return ("scale", deed[1], pow(deed[2], -1, n))
    return add(deed[1], (n - deed[2]) % n, deed[3], deed[4])


def put_down(n, m, bringers, inner):
    """The row as it is told, deed by deed."""
    w, u = least_root(n, m), pow(m, -1, n)
    told = []
    for turn in range(m):
        for shelf, deeds in bringers:
            for deed in deeds:
                told.append(deed)
        for word, shelf, number, gs, ts in inner:
            told.append(add(shelf, number * u % n, gs, ts))
        for shelf, deeds in bringers[::-1]:
            for deed in deeds[::-1]:
                told.append(undone(n, deed))
        for shelf, deeds in bringers:
            told.append(("scale", shelf, w))
    return tuple(told)


def product_row(n, exprs):
    """The row of a product, with the spares written out."""
    spares = {1: (0, 2), 2: (0, 1), 3: (0, 1), 4: (0, 1)}
    bringers = tuple([(at, bring_alone(n, expr, at, *spares[at])) for at, expr in enumerate(exprs, start=1)])
    inner = (add(0, 1, (), (1, 2, 3, 4)[:len(exprs)]),)
    return put_down(n, len(exprs) + 1, bringers, inner)


class TestRounds(unittest.TestCase):
    def same(self, n, m, bringers, inner):
        told = rounds(n, m, bringers, inner)
        self.assertIs(told.__class__, tuple)
        self.assertEqual(told, put_down(n, m, bringers, inner))

    def test_the_least_roots(self):
        for n, m, w in ROOTS:
            asked = least_root(n, m)
            self.assertIsNotNone(asked)
            if w is not None:
                self.assertEqual(asked, w)
            self.assertEqual(rounds(n, m, ((3, ()),), ()), (("scale", 3, asked),) * m)

    def test_told_row(self):
        bringers = ((1, (add(1, 1, (0,), ()), add(1, 3, (), ()))), (2, (add(2, 2, (1,), ()),)))
        inner = (add(0, 4, (), (1, 2)), add(3, 1, (0,), ()))
        # By rests of 7 the least root of order 3 is 2, the third of 1 is 5.
        one = (add(1, 1, (0,), ()), add(1, 3, (), ()), add(2, 2, (1,), ()),
               add(0, 6, (), (1, 2)), add(3, 5, (0,), ()),
               add(2, 5, (1,), ()), add(1, 4, (), ()), add(1, 6, (0,), ()),
               ("scale", 1, 2), ("scale", 2, 2))
        self.assertEqual(rounds(7, 3, bringers, inner), one * 3)

    def test_the_last_bringer_is_turned_back_first(self):
        bringers = ((8, (add(8, 1, (), (0,)), ("scale", 0, 3))), (4, (add(4, 2, (), (0,)),)), (6, (("scale", 6, 4),)))
        one = (add(8, 1, (), (0,)), ("scale", 0, 3), add(4, 2, (), (0,)), ("scale", 6, 4),
               ("scale", 6, 2), add(4, 5, (), (0,)), ("scale", 0, 5), add(8, 6, (), (0,)),
               ("scale", 8, 6), ("scale", 4, 6), ("scale", 6, 6))
        self.assertEqual(rounds(7, 2, bringers, ()), one * 2)

    def test_no_bringers(self):
        inner = (add(0, 4, (0, 0), ()), add(2, 0, (), ()), add(0, 6, (), ()))
        self.assertEqual(rounds(7, 3, (), inner), (add(0, 6, (0, 0), ()), add(2, 0, (), ()), add(0, 2, (), ())) * 3)
        self.assertEqual(rounds(10, 1, (), inner), inner)
        self.assertEqual(rounds(7, 3, (), ()), ())

    def test_no_inner_deeds(self):
        bringers = ((1, (add(1, 1, (0,), ()),)), (0, ()))
        one = (add(1, 1, (0,), ()), add(1, 6, (0,), ()), ("scale", 1, 2), ("scale", 0, 2))
        self.assertEqual(rounds(7, 3, bringers, ()), one * 3)

    def test_m_1(self):
        for n in (2, 10, 7):
            bringers = ((1, (add(1, 1, (0,), ()),)),)
            inner = (add(0, n - 1, (0,), ()),)
            asked = bringers[0][1] + inner + (add(1, n - 1, (0,), ()), ("scale", 1, 1))
            self.assertEqual(rounds(n, 1, bringers, inner), asked)

    def test_all_orders_there_are(self):
        chance = random.Random(2100)
        for n in range(2, 60):
            for m in range(1, 13):
                bringers = ((2, (chance_deed(chance, n, 2, 2),)), (4, (chance_deed(chance, n, 2, 2),) * 2))
                inner = (add(0, chance.randrange(n), (1,), (2,) if m > 1 else ()),)
                if least_root(n, m) is not None:
                    self.same(n, m, bringers, inner)
                    continue
                with self.assertRaises(NoRoot) as caught:
                    rounds(n, m, bringers, inner)
                self.assertEqual(caught.exception.many, m)
                self.assertIsInstance(caught.exception, LentError)

    def test_no_root(self):
        for n, m in ((2, 2), (10, 2), (1000, 2), (2000, 2), (9, 3), (7, 4), (7, 12), (21, 3), (1999, 12), (2000, 12)):
            for bringers, inner in (((), ()), (((1, ()),), (add(0, 1, (), (1,)),))):
                with self.assertRaises(NoRoot) as caught:
                    rounds(n, m, bringers, inner)
                self.assertEqual(caught.exception.many, m)

    def test_chance(self):
        chance = random.Random(2101)
        for turn in range(150):
            n, m, w = chance.choice(ROOTS)
            shelves = chance.sample(range(9), chance.randint(0, 8))
            bringers = []
            for shelf in shelves:
                deeds = tuple([chance_deed(chance, n, 3, 9) for step in range(chance.randint(0, 6))])
                bringers.append((shelf, deeds))
            others = [shelf for shelf in range(9) if shelf not in shelves]
            inner = []
            for step in range(chance.randint(0, 5)):
                most = min(4, m - 1) if shelves else 0
                ts = tuple(sorted([chance.choice(shelves) for t in range(chance.randint(0, most))]))
                inner.append(add(chance.choice(others), chance.randrange(n), (0,), ts))
            self.same(n, m, tuple(bringers), tuple(inner))

    def test_fifty_deeds_and_more(self):
        chance = random.Random(2102)
        for many in (50, 400):
            bringers = tuple([(shelf, tuple([chance_deed(chance, 13, 2, 9) for step in range(many)]))
                              for shelf in range(1, 9)])
            inner = tuple([add(0, chance.randrange(13), (), (1, 3, 8)) for step in range(50)])
            self.same(13, 12, bringers, inner)


class TestWhatRoundsBring(unittest.TestCase):
    """Of [21]: inner shelves get what the inner deeds would bring by what is brought alone, all else comes back."""

    def brings(self, chance, n, m, exprs, inner):
        """Expressions are brought to shelves 1, 2 .. of nine, inner deeds go to 0 and 8."""
        bringers = []
        for shelf, expr in enumerate(exprs, start=1):
            spares = chance.sample([other for other in range(9) if other != shelf], 2)
            bringers.append((shelf, bring_alone(n, expr, shelf, *spares)))
        program = (n, 3, 9, rounds(n, m, tuple(bringers), inner))
        self.assertIs(look(program), True)
        givens, lies = chance_rests(chance, n, 3), chance_rests(chance, n, 9)
        asked = list(lies)
        worths = [worth(n, expr, givens) for expr in exprs]
        for word, shelf, number, gs, ts in inner:
            factors = [givens[g] for g in gs] + [worths[t - 1] for t in ts]
            asked[shelf] = (asked[shelf] + number * math.prod(factors)) % n
        told = run(program, givens, lies)
        self.assertEqual(told, tuple(asked))
        self.assertEqual(run(turned_back(program), givens, told), lies)

    def test_chance(self):
        chance = random.Random(2103)
        for turn in range(200):
            n, m, w = chance.choice(ROOTS)
            exprs = [chance_expr(chance, 2, 3) for step in range(chance.randint(0, 5))]
            inner = []
            for step in range(chance.randint(0, 4)):
                most = min(4, m - 1) if exprs else 0
                ts = [chance.randint(1, len(exprs)) for t in range(chance.randint(0, most))]
                gs = [chance.randrange(3) for g in range(chance.randint(0, 2))]
                inner.append(add(chance.choice([0, 8]), chance.randrange(n), tuple(sorted(gs)), tuple(sorted(ts))))
            self.brings(chance, n, m, exprs, tuple(inner))

    def test_one_fewer_than_m_the_same_shelf_again(self):
        chance = random.Random(2104)
        for n, m in ((3, 2), (7, 3), (91, 3), (13, 4), (31, 5)):
            for turn in range(20):
                self.brings(chance, n, m, [chance_expr(chance, 2, 3)], (add(0, 1, (), (1,) * (m - 1)),))


class TestProduct(unittest.TestCase):
    def no_root(self, many, n, givens, exprs, *told):
        with self.assertRaises(NoRoot) as caught:
            product(n, givens, exprs, *told)
        self.assertEqual(caught.exception.many, many)

    def too_many(self, most, n, givens, exprs, *told):
        with self.assertRaises(TooMany) as caught:
            product(n, givens, exprs, *told)
        self.assertEqual(caught.exception.most, most)
        self.assertIsInstance(caught.exception, LentError)

    def test_of_one(self):
        one = (add(1, 1, (0,), ()), add(0, 4, (), (1,)), add(1, 6, (0,), ()), ("scale", 1, 6))
        self.assertEqual(product(7, 1, (X0,)), (7, 1, 3, one * 2))
        # Spares are 0 and 2: the second factor goes to 2 alone, the first one by 2 to 1.
        told = product(7, 2, (("times", X0, X1),))
        self.assertEqual(told[3][:4], (add(2, 1, (1,), ()), add(1, 1, (0,), (2,)), add(2, 6, (1,), ()), add(1, 6, (0,), (2,))))

    def test_of_two(self):
        one = (add(1, 1, (0,), ()), add(2, 3, (), ()), add(0, 5, (), (1, 2)), add(2, 4, (), ()), add(1, 6, (0,), ()),
               ("scale", 1, 2), ("scale", 2, 2))
        self.assertEqual(product(7, 3, (X0, ("num", 10))), (7, 3, 3, one * 3))
        # Spares of shelf 2 are 0 and 1: the second factor goes to 1 alone.
        told = product(7, 2, (X0, ("times", X0, X1)))
        self.assertEqual(told[3][1:3], (add(1, 1, (1,), ()), add(2, 1, (0,), (1,))))

    def test_as_many_shelves_and_one_at_least_three(self):
        for many, n, shelves in ((1, 3, 3), (2, 7, 3), (3, 5, 4), (4, 11, 5)):
            for givens in (3, 8):
                told = product(n, givens, (X0, X1, X2, X0)[:many])
                self.assertEqual(told[:3], (n, givens, shelves))
                self.assertIs(look(told), True)

    def test_rows(self):
        chance = random.Random(2200)
        for turn in range(100):
            many, n = chance.choice([(1, 3), (1, 15), (1, 1999), (2, 7), (2, 91), (3, 5), (3, 13), (4, 11), (4, 31)])
            exprs = tuple([chance_expr(chance, 3) for step in range(many)])
            row = product_row(n, exprs)
            self.assertEqual(len(row), (many + 1) * (2 * sum([how_many(expr) for expr in exprs]) + 1 + many))
            self.assertEqual(product(n, 8, exprs), (n, 8, max(3, many + 1), row))

    def test_no_root(self):
        for many in range(1, 5):
            exprs = (X0, X1, X2, X0)[:many]
            for n in (2, 4, 10, 1000, 2000):
                self.no_root(many + 1, n, 3, exprs)
        self.no_root(3, 15, 3, (X0, X1))
        self.no_root(4, 7, 3, (X0, X1, X2))
        self.no_root(5, 13, 3, (X0, X1, X2, X0))

    def test_no_root_ahead_of_too_many(self):
        self.no_root(2, 10, 1, (X0,), 1)
        self.no_root(4, 7, 3, (X0, X1, X2), 2)
        self.too_many(1, 7, 1, (X0,), 1)

    def test_just_as_many_as_most(self):
        chance = random.Random(2201)
        for turn in range(60):
            many, n = chance.choice([(1, 3), (2, 7), (3, 5), (4, 11)])
            exprs = tuple([chance_expr(chance, 2) for step in range(many)])
            told = product(n, 8, exprs)
            self.assertEqual(product(n, 8, exprs, len(told[3])), told)
            self.assertEqual(product(n, 8, exprs, len(told[3]) + 1), told)
            self.too_many(len(told[3]) - 1, n, 8, exprs, len(told[3]) - 1)
            self.too_many(1, n, 8, exprs, 1)

    def test_5000_if_nothing_is_said(self):
        def full(word, deep):
            return X0 if deep == 0 else (word, full(word, deep - 1), full(word, deep - 1))

        expr = X0
        for part in (full("times", 5), full("sum", 7), full("sum", 6), full("sum", 5)):
            expr = ("sum", expr, part)
        self.assertEqual(how_many(expr), 1249)
        self.assertEqual(len(product(7, 1, (expr,))[3]), 5000)
        self.too_many(5000, 7, 1, (("sum", expr, X0),))
        self.assertEqual(len(product(7, 1, (("sum", expr, X0),), 5004)[3]), 5004)

    def test_where_the_row_is_too_long_to_be_made(self):
        expr = X0
        for turn in range(60):
            expr = ("times", X1, expr)
        self.too_many(5000, 7, 2, (X0, expr))
        self.no_root(3, 10, 2, (X0, expr))


class TestWhatProductsBring(unittest.TestCase):
    def brings(self, n, exprs, givens, lies):
        program = product(n, len(givens), exprs)
        more = math.prod([worth(n, expr, givens) for expr in exprs])
        told = run(program, givens, lies)
        self.assertEqual(told, ((lies[0] + more) % n,) + lies[1:])
        self.assertEqual(run(turned_back(program), givens, told), lies)

    def test_whatever_lies_there(self):
        for rests in itertools.product(range(3), repeat=5):
            self.brings(3, (("less", X0, ("times", X1, X0)),), rests[:2], rests[2:])
        chance = random.Random(2202)
        for givens in itertools.product(range(7), repeat=2):
            for turn in range(5):
                self.brings(7, (("less", X0, X1), ("times", X0, X0)), givens, chance_rests(chance, 7, 3))

    def test_chance(self):
        chance = random.Random(2203)
        for turn in range(150):
            many, n = chance.choice([(1, 3), (1, 15), (1, 1999), (2, 7), (2, 91), (3, 5), (3, 13), (4, 11), (4, 31)])
            exprs = tuple([chance_expr(chance, 3) for step in range(many)])
            self.brings(n, exprs, chance_rests(chance, n, 8), chance_rests(chance, n, max(3, many + 1)))


class TestAskedAgain(unittest.TestCase):
    def test_the_same_is_told(self):
        chance = random.Random(2204)
        asked = []
        for turn in range(20):
            many, n = chance.choice([(1, 3), (2, 7), (3, 5), (4, 11)])
            asked.append((n, 8, tuple([chance_expr(chance, 2) for step in range(many)])))
        ahead = [product(*one) for one in asked]
        self.assertRaises(NoRoot, rounds, 10, 2, (), ())
        self.assertEqual([product(*one) for one in reversed(asked)], ahead[::-1])


if __name__ == "__main__":
    unittest.main()
