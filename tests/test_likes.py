"""[28], and of [3] forms: programs alike or parted, what comes back, what the one shelf gets."""

import itertools
import random
import unittest

from lentshelf.errors import LentError, TooMany
from lentshelf.expressions import worth
from lentshelf.forms import first_unlike, form_of, worth_at
from lentshelf.likes import alike, gets, gives_back
from lentshelf.making import bring_by, program_of
from lentshelf.programs import behind, turned_back
from lentshelf.rounds import product
from lentshelf.running import run
from lentshelf.symbols import expr_form, forms_behind
from lentshelf.trees import tree_program
from samples import chance_expr, chance_program

SMALL = (2, 3, 4, 5, 6, 8)
X0, X1 = ("given", 0), ("given", 1)


def add(shelf, number, gs, ts):
    return ("add", shelf, number, gs, ts)


def points(program):
    """All givens and contents."""
    n, givens, shelves = program[:3]
    for point in itertools.product(range(n), repeat=givens + shelves):
        yield point[:givens], point[givens:]


def lying(many, at):
    """The form of this letter."""
    return (((0,) * at + (1,) + (0,) * (many - at - 1), 1),)


class LikesTest(unittest.TestCase):
    def refused(self, most, asked, *told):
        with self.assertRaises(TooMany) as caught:
            asked(*told)
        self.assertEqual(caught.exception.most, most)
        self.assertIsInstance(caught.exception, LentError)


class TestAlike(LikesTest):
    def test_told_ones(self):
        one = (10, 1, 2, (add(0, 1, (0,), ()), add(1, 2, (), ())))
        other = (10, 1, 2, (add(1, 2, (), ()), add(0, 1, (0,), ())))
        self.assertIsNone(alike(one, other))
        self.assertIsNone(alike(one, one))
        # Squares by 10: five times a square less five times the number itself is 0.
        self.assertIsNone(alike((10, 1, 1, (add(0, 5, (0, 0), ()),)), (10, 1, 1, (add(0, 5, (0,), ()),))))
        self.assertEqual(alike((10, 1, 1, (add(0, 4, (0, 0), ()),)), (10, 1, 1, (add(0, 4, (0,), ()),))), ((2,), (0,)))
        self.assertEqual(alike((10, 0, 2, (add(1, 1, (), ()),)), (10, 0, 2, ())), ((), (0, 0)))
        self.assertEqual(alike((10, 2, 2, (add(1, 1, (0,), (0,)),)), (10, 2, 2, ())), ((1, 0), (1, 0)))
        self.assertEqual(alike((10, 0, 2, (("scale", 1, 3),)), (10, 0, 2, ())), ((), (0, 1)))
        self.assertEqual(alike((10, 0, 1, (("scale", 0, 3), add(0, 7, (), ()))), (10, 0, 1, (("scale", 0, 3),))), ((), (0,)))

    def test_the_first_shelf_tells(self):
        # Shelf 1 parts by given 1, shelf 2 already by nothing at all.
        one = (10, 2, 3, (add(1, 1, (1,), ()), add(2, 1, (), ())))
        self.assertEqual(alike(one, (10, 2, 3, ())), ((0, 1), (0, 0, 0)))
        self.assertEqual(alike((10, 2, 3, ()), one), ((0, 1), (0, 0, 0)))
        self.assertEqual(alike(one, (10, 2, 3, one[3][:1])), ((0, 0), (0, 0, 0)))

    def test_against_runs_at_all_points(self):
        chance = random.Random(2800)
        same = 0
        for turn in range(200):
            n = chance.choice(SMALL)
            one = chance_program(chance, n, chance.randint(0, 1), chance.randint(1, 2), chance.randint(0, 4))
            other = one[:3] + (tuple(chance.sample(one[3], len(one[3]))),)
            if chance.random() < 0.3:
                other = chance_program(chance, n, one[1], one[2], 3)
            told = alike(one, other, 900)
            self.assertEqual(alike(other, one, 900), told)
            parted = [point for point in points(one) if run(one, *point) != run(other, *point)]
            if not parted:
                same += 1
                self.assertIsNone(told)
                continue
            self.assertIn(told, parted)
            self.assertEqual((told.__class__, told[0].__class__, told[1].__class__), (tuple, tuple, tuple))
            unlike = [first_unlike(n, *pair) for pair in zip(forms_behind(one, 900), forms_behind(other, 900))]
            self.assertEqual(told[0] + told[1], [point for point in unlike if point is not None][0])
            shelf = [at for at, point in enumerate(unlike) if point is not None][0]
            self.assertNotEqual(run(one, *told)[shelf], run(other, *told)[shelf])
        self.assertTrue(20 < same < 180)

    def test_products_by_rounds_and_made_programs(self):
        for n in (7, 13, 91):
            exprs = (X0, ("sum", X1, ("num", 3)))
            made = program_of(n, 2, ("times", exprs[0], exprs[1]))
            self.assertIsNone(alike(made, product(n, 2, exprs)))
            self.assertIsNone(alike(made, program_of(n, 2, ("times", exprs[1], exprs[0]))))
            told = alike(made, product(n, 2, (X0, X1)))
            self.assertNotEqual(run(made, *told), run(product(n, 2, (X0, X1)), *told))
            self.assertEqual(told, ((1, 0), (0, 0, 0)))

    def test_turned_back_behind(self):
        chance = random.Random(2801)
        for turn in range(60):
            program = chance_program(chance, chance.choice(SMALL), 1, 2, 4)
            self.assertIsNone(alike(behind(program, turned_back(program)), program[:3] + ((),), 900))

    def test_too_many(self):
        square = (97, 1, 1, (add(0, 1, (0, 0), ()), add(0, 96, (0, 0), ())))
        empty = (97, 1, 1, ())
        for one, other in ((square, empty), (empty, square), (square, square)):
            self.assertIsNone(alike(one, other, 3))
            self.refused(2, alike, one, other, 2)
            self.refused(1, alike, one, other, 1)
        # Where they part there may be more terms.
        one, other = (97, 1, 1, (add(0, 1, (), ()),)), (97, 1, 1, (add(0, 1, (0,), ()),))
        self.assertEqual(alike(one, other, 2), ((0,), (0,)))
        self.refused(1, alike, one, other, 1)

    def test_most_left_out_is_60(self):
        deeds = tuple([add(0, 1, (given,) * 4, (shelf,)) for given in range(7) for shelf in (1, 2)])
        sixty = (97, 8, 4, deeds + tuple([add(0, 1, (7,), (shelf,)) for shelf in (1, 2, 3)]))
        more = (97, 8, 4, sixty[3] + (add(0, 1, (6,), (3,)),))
        empty = (97, 8, 4, ())
        self.assertIsNone(alike(sixty, sixty))
        self.assertIsNone(gives_back(sixty, 0))
        self.assertEqual(len(gets(sixty, 0)), 59)
        for asked in (lambda: alike(more, empty), lambda: alike(empty, more), lambda: gives_back(more, 0), lambda: gets(more, 0)):
            self.refused(60, asked)
        self.assertEqual(len(gets(more, 0, 61)), 60)


class TestGivesBack(LikesTest):
    def test_told_ones(self):
        program = (10, 1, 3, (add(1, 1, (0,), (0,)),))
        self.assertIsNone(gives_back(program, 1))
        self.assertEqual(gives_back(program, 0), ((1,), (1, 0, 0)))
        self.assertEqual(gives_back(program, 2), ((1,), (1, 0, 0)))
        for shelf in range(3):
            self.assertIsNone(gives_back((10, 1, 3, ()), shelf))
        self.assertIsNone(gives_back((10, 0, 1, (add(0, 1, (), ()),)), 0))
        self.assertEqual(gives_back((10, 0, 2, (("scale", 0, 3),)), 1), ((), (1, 0)))

    def test_the_first_one_that_does_not_come_back(self):
        program = (10, 2, 3, (add(0, 1, (0,), ()), add(1, 1, (1,), ()), add(2, 1, (), ())))
        self.assertEqual(gives_back(program, 0), ((0, 1), (0, 0, 0)))
        self.assertEqual(gives_back(program, 1), ((1, 0), (0, 0, 0)))
        self.assertEqual(gives_back(program, 2), ((1, 0), (0, 0, 0)))

    def test_against_runs_at_all_points(self):
        chance = random.Random(2802)
        back = 0
        for turn in range(150):
            n = chance.choice(SMALL)
            program = chance_program(chance, n, chance.randint(0, 1), chance.randint(1, 2), chance.randint(0, 4))
            forms = forms_behind(program, 900)
            for shelf in range(program[2]):
                told = gives_back(program, shelf, 900)
                others = [other for other in range(program[2]) if other != shelf]
                gone = [other for other in others
                        if [at for at in points(program) if run(program, *at)[other] != at[1][other]]]
                if not gone:
                    back += 1
                    self.assertIsNone(told)
                    continue
                self.assertNotEqual(run(program, *told)[gone[0]], told[1][gone[0]])
                asked = first_unlike(n, forms[gone[0]], lying(program[1] + program[2], program[1] + gone[0]))
                self.assertEqual(told[0] + told[1], asked)
        self.assertGreater(back, 30)

    def test_made_programs(self):
        chance = random.Random(2803)
        for turn in range(40):
            n = chance.choice(SMALL)
            expr = chance_expr(chance, 2, 2)
            self.assertIsNone(gives_back(program_of(n, 2, expr), 0, 900))
            self.assertIsNone(gives_back((n, 2, 3, bring_by(n, expr, 2, 0, 1)), 2, 900))

    def test_products_and_trees(self):
        self.assertIsNone(gives_back(product(7, 2, (X0, X1)), 0))
        self.assertIsNotNone(gives_back(product(7, 2, (X0, X1)), 1))
        tree = ("node", (0, 1, 1, 0), ("leaf", 0), ("leaf", 1))
        self.assertIsNone(gives_back(tree_program(7, 2, 2, tree), 0))

    def test_too_many(self):
        program = (97, 1, 2, (add(0, 1, (0, 0), ()), add(0, 96, (0, 0), ())))
        for shelf in (0, 1):
            self.assertIsNone(gives_back(program, shelf, 3))
            self.refused(2, gives_back, program, shelf, 2)


class TestGets(LikesTest):
    def test_told_ones(self):
        program = (10, 1, 2, (add(1, 3, (0,), (0,)), add(1, 4, (), ())))
        self.assertEqual(gets(program, 1), (((0, 0, 0), 4), ((1, 1, 0), 3)))
        self.assertEqual(gets(program, 0), ())
        self.assertEqual(gets((10, 0, 1, (("scale", 0, 3),)), 0), (((1,), 2),))
        self.assertEqual(gets((10, 0, 1, ()), 0), ())

    def test_a_term_more(self):
        # Shelf 0 is made of shelf 1 alone, so what it had is taken away.
        deeds = (add(0, 1, (), (1,)), add(1, 9, (), (0,)), add(0, 1, (), (1,)))
        self.assertEqual(forms_behind((10, 0, 2, deeds), 2)[0], (((0, 1), 1),))
        self.assertEqual(gets((10, 0, 2, deeds), 0, 2), (((0, 1), 1), ((1, 0), 9)))
        deeds += (add(0, 1, (), ()),)
        self.assertEqual(len(gets((10, 0, 2, deeds), 0, 2)), 3)
        self.refused(1, gets, (10, 0, 2, deeds), 0, 1)

    def test_against_runs_at_all_points(self):
        chance = random.Random(2804)
        for turn in range(120):
            n = chance.choice(SMALL)
            program = chance_program(chance, n, chance.randint(0, 1), chance.randint(1, 2), chance.randint(0, 4))
            for shelf in range(program[2]):
                told = gets(program, shelf, 900)
                for givens, contents in points(program):
                    much = (run(program, givens, contents)[shelf] - contents[shelf]) % n
                    self.assertEqual(worth_at(n, told, givens + contents), much)
                forms = forms_behind(program, 900)[shelf]
                own = lying(program[1] + program[2], program[1] + shelf)[0][0]
                self.assertEqual(sorted(set([row for row, number in told]) | {own}),
                                 sorted(set([row for row, number in forms]) | {own}))

    def test_made_programs_get_the_expression(self):
        chance = random.Random(2805)
        for turn in range(40):
            n = chance.choice(SMALL)
            expr = chance_expr(chance, 2, 2)
            form = expr_form(n, 2, expr, 900)
            asked = tuple([(steps + (0, 0, 0), number) for steps, number in form])
            self.assertEqual(gets(program_of(n, 2, expr), 0, 900), asked)
            by = tuple([(steps + (1, 0, 0), number) for steps, number in form])
            self.assertEqual(gets((n, 2, 3, bring_by(n, expr, 2, 0, 1)), 2, 900), by)
            for givens in itertools.product(range(n), repeat=2):
                self.assertEqual(worth_at(n, asked, givens + (0, 0, 0)), worth(n, expr, givens))

    def test_products_and_trees(self):
        self.assertEqual(gets(product(7, 2, (X0, X1)), 0), (((1, 1, 0, 0, 0), 1),))
        # Whether just one of two: a + b less twice their product.
        tree = ("node", (0, 1, 1, 0), ("leaf", 0), ("leaf", 1))
        asked = form_of(7, 5, (((1, 0, 0, 0, 0), 1), ((0, 1, 0, 0, 0), 1), ((1, 1, 0, 0, 0), -2)))
        self.assertEqual(gets(tree_program(7, 2, 2, tree), 0), asked)

    def test_too_many(self):
        program = (97, 1, 2, (add(0, 1, (0, 0), ()), add(0, 96, (0, 0), ())))
        for shelf in (0, 1):
            self.assertEqual(gets(program, shelf, 3), ())
            self.refused(2, gets, program, shelf, 2)


class TestAskedAgain(unittest.TestCase):
    def test_the_same_is_told(self):
        chance = random.Random(2806)
        asked = [(chance_program(chance, 6, 1, 2, 4), chance_program(chance, 6, 1, 2, 4)) for turn in range(15)]

        def told(one, other):
            return (alike(one, other, 900), gives_back(one, 0, 900), gives_back(other, 1, 900), gets(one, 1, 900))

        ahead = [told(*pair) for pair in asked]
        self.assertEqual([told(*pair) for pair in reversed(asked)], ahead[::-1])


if __name__ == "__main__":
    unittest.main()
