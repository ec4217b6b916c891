"""[27], [29]: the forms behind a program's deeds, the forms of expressions, and how many terms come on the way."""

import itertools
import math
import random
import unittest

from lentshelf.errors import LentError, TooMany
from lentshelf.expressions import worth
from lentshelf.forms import worth_at
from lentshelf.making import program_of
from lentshelf.running import run
from lentshelf.symbols import expr_form, forms_behind
from samples import chance_expr, chance_program, chance_rests

SMALL = (2, 3, 4, 5, 6, 8, 12)
X0, X1 = ("given", 0), ("given", 1)


def add(shelf, number, gs, ts):
    return ("add", shelf, number, gs, ts)


def side(n):
    """The least number whose factorial n divides: no form has greater steps."""
    return min([e for e in range(1, n + 1) if math.factorial(e) % n == 0])


def form_by_values(n, many, values):
    """The form of what has these values at all points of that side, by its differences at 0."""
    reach = side(n)
    table = dict(zip(itertools.product(range(reach), repeat=many), values, strict=True))
    for letter in range(many):
        for order in range(1, reach):
            for point in sorted(table, reverse=True):
                if point[letter] >= order:
                    table[point] -= table[point[:letter] + (point[letter] - 1,) + point[letter + 1:]]
    told = []
    for steps in sorted(table):
        times = math.prod([math.factorial(e) for e in steps])
        if table[steps] % n:
            number = [k for k in range(1, n) if (k * times - table[steps]) % n == 0][0]
            told.append((steps, number))
    return tuple(told)


class Grid:
    """Letters, and what is made of them, by their values at all points."""

    def __init__(self, n, many):
        self.n, self.many = n, many
        self.points = list(itertools.product(range(side(n)), repeat=many))
        self.letters = [[point[at] for point in self.points] for at in range(many)]
        self.most = 0

    def constant(self, number):
        return self.seen([number % self.n for point in self.points])

    def form(self, values):
        return form_by_values(self.n, self.many, values)

    def seen(self, values):
        """The values themselves; how many terms their form has is kept."""
        self.most = max(self.most, len(self.form(values)))
        return values

    def times(self, one, other):
        return self.seen([a * b % self.n for a, b in zip(one, other)])

    def plus(self, one, other):
        return self.seen([(a + b) % self.n for a, b in zip(one, other)])


def by_grid(program):
    """The forms behind, and the most terms that come on the way."""
    n, givens, shelves, deeds = program
    grid = Grid(n, givens + shelves)
    rows = list(grid.letters)
    for deed in deeds:
        shelf = givens + deed[1]
        if deed[0] == "scale":
            rows[shelf] = grid.times(rows[shelf], [deed[2]] * len(grid.points))
            continue
        row = grid.constant(deed[2])
        for letter in list(deed[3]) + [givens + t for t in deed[4]]:
            row = grid.times(row, rows[letter])
        rows[shelf] = grid.plus(rows[shelf], row)
    return tuple([grid.form(row) for row in rows[givens:]]), grid.most


def expr_by_grid(n, givens, expr):
    grid = Grid(n, givens)

    def values(part):
        if part[0] == "num":
            return grid.constant(part[1])
        if part[0] == "given":
            return grid.seen(grid.letters[part[1]])
        one, other = values(part[1]), values(part[2])
        if part[0] == "times":
            return grid.times(one, other)
        return grid.plus(one, other if part[0] == "sum" else [-value for value in other])

    told = grid.form(values(expr))
    return told, grid.most


def letter(many, at):
    return ((tuple([1 if other == at else 0 for other in range(many)]), 1),)


class SymbolsTest(unittest.TestCase):
    def refused(self, most, asked, *told):
        with self.assertRaises(TooMany) as caught:
            asked(*told)
        self.assertEqual(caught.exception.most, most)
        self.assertIsInstance(caught.exception, LentError)

    def just(self, most, asked, *told):
        """It is told with so many terms and more, and refused with fewer."""
        answer = asked(*told, most)
        self.assertEqual(asked(*told, most + 1), answer)
        if most > 1:
            self.refused(most - 1, asked, *told, most - 1)
            self.refused(1, asked, *told, 1)
        return answer


class TestFormsBehind(SymbolsTest):
    def test_no_deeds(self):
        self.assertEqual(forms_behind((10, 2, 3, ())), (letter(5, 2), letter(5, 3), letter(5, 4)))
        self.assertEqual(forms_behind((10, 0, 1, ()), 1), (letter(1, 0),))

    def test_an_add(self):
        # Letters: given 0, shelf 0, shelf 1.
        told = forms_behind((10, 1, 2, (add(1, 3, (0,), (0,)),)))
        self.assertEqual(told, (letter(3, 1), (((0, 0, 1), 1), ((1, 1, 0), 3))))
        told = forms_behind((10, 1, 2, (add(0, 7, (), ()),)))
        self.assertEqual(told, ((((0, 0, 0), 7), ((0, 1, 0), 1)), letter(3, 2)))

    def test_factors_that_stand_again(self):
        told = forms_behind((10, 1, 2, (add(0, 1, (0, 0), (1, 1)),)))
        squares = (((0, 1, 0), 1), ((1, 0, 1), 1), ((1, 0, 2), 1), ((2, 0, 1), 1), ((2, 0, 2), 1))
        self.assertEqual(told[0], squares)

    def test_shelves_as_they_are(self):
        # Shelf 1 gets what shelf 0 has by then, then shelf 0 what shelf 1 has.
        deeds = (add(0, 1, (0,), ()), add(1, 2, (), (0,)), add(0, 3, (), (1,)))
        told = forms_behind((10, 1, 2, deeds))
        self.assertEqual(told[1], (((0, 0, 1), 1), ((0, 1, 0), 2), ((1, 0, 0), 2)))
        self.assertEqual(told[0], (((0, 0, 1), 3), ((0, 1, 0), 7), ((1, 0, 0), 7)))

    def test_a_scale(self):
        told = forms_behind((10, 1, 1, (add(0, 4, (0, 0), ()), ("scale", 0, 3))))
        # Of steps 2 there are five numbers: 4 times 3 is 2.
        self.assertEqual(told, ((((0, 1), 3), ((1, 0), 2), ((2, 0), 2)),))
        self.assertEqual(forms_behind((10, 0, 2, (("scale", 1, 9),)), 1), (letter(2, 0), (((0, 1), 9),)))

    def test_against_runs_at_all_points(self):
        chance = random.Random(2700)
        for turn in range(150):
            n = chance.choice(SMALL)
            givens, shelves = chance.randint(0, 1), chance.randint(1, 2)
            program = chance_program(chance, n, givens, shelves, chance.randint(0, 6))
            told = forms_behind(program, 2000)
            self.assertEqual(len(told), shelves)
            for point in itertools.product(range(n), repeat=givens + shelves):
                asked = run(program, point[:givens], point[givens:])
                self.assertEqual(tuple([worth_at(n, form, point) for form in told]), asked)

    def test_against_runs_by_great_n(self):
        chance = random.Random(2701)
        kept = 0
        for turn in range(150):
            n = chance.choice([97, 720720, 999983, 1000000])
            program = chance_program(chance, n, chance.randint(0, 8), chance.randint(1, 9), chance.randint(0, 6))
            try:
                told = forms_behind(program)
            except TooMany:
                continue
            kept += 1
            for step in range(5):
                givens, contents = chance_rests(chance, n, program[1]), chance_rests(chance, n, program[2])
                asked = run(program, givens, contents)
                self.assertEqual(tuple([worth_at(n, form, givens + contents) for form in told]), asked)
        self.assertGreater(kept, 60)


class TestHowManyOnTheWay(SymbolsTest):
    def test_the_sum_counts(self):
        # Two terms of the square, three with the shelf's own.
        self.just(3, forms_behind, (97, 1, 1, (add(0, 1, (0, 0), ()),)))
        self.just(2, forms_behind, (97, 1, 1, (add(0, 1, (0,), ()),)))
        self.just(2, forms_behind, (97, 0, 1, (add(0, 1, (), ()),)))

    def test_each_product_counts(self):
        # By 6 a square has two terms, a cube one.
        cube = (add(0, 5, (), (1,)), add(0, 1, (), (1, 1, 1)))
        self.assertEqual(self.just(2, forms_behind, (6, 0, 2, cube)), (letter(2, 0), letter(2, 1)))
        # Two squares have four terms, five with the shelf's own.
        squares = (add(0, 1, (0, 0, 1, 1), ()), add(0, 5, (0, 0, 1, 1), ()))
        self.just(5, forms_behind, (6, 2, 1, squares))

    def test_a_product_greater_than_all_that_lies_there(self):
        chance = random.Random(2702)
        found = 0
        for turn in range(150):
            n = chance.choice([4, 6, 8, 12])
            program = chance_program(chance, n, 1, 2, 3)
            forms, most = by_grid(program)
            lying = max([len(form) for many in range(4) for form in by_grid(program[:3] + (program[3][:many],))[0]])
            if most > lying:
                found += 1
                self.just(most, forms_behind, program)
        self.assertGreater(found, 3)

    def test_what_is_gone_again_counts(self):
        self.just(2, forms_behind, (97, 2, 2, (add(0, 1, (0, 1), (1,)), add(0, 96, (0, 1), (1,)))))
        # Shelf 1 gets a square of five terms and gives it back.
        deeds = (add(0, 1, (0,), ()), add(1, 1, (), (0, 0)), add(1, 96, (), (0, 0)), add(0, 96, (0,), ()))
        self.assertEqual(self.just(6, forms_behind, (97, 1, 2, deeds)), (letter(3, 1), letter(3, 2)))

    def test_number_0(self):
        # There are no terms, so none come of the products either.
        program = (97, 4, 2, (add(0, 0, (0, 1, 2, 3), (1, 1, 1, 1)),))
        self.assertEqual(forms_behind(program, 1), (letter(6, 4), letter(6, 5)))
        self.just(3, forms_behind, (97, 1, 1, (add(0, 0, (), ()), add(0, 2, (0, 0), ()), add(0, 0, (0, 0, 0, 0), ()))))

    def test_chance(self):
        chance = random.Random(2703)
        for turn in range(250):
            n = chance.choice(SMALL)
            givens = chance.randint(0, 2)
            program = chance_program(chance, n, givens, chance.randint(1, 3 - givens), chance.randint(0, 7))
            forms, most = by_grid(program)
            self.assertEqual(self.just(max(most, 1), forms_behind, program), forms)

    def test_most_left_out_is_60(self):
        told = 0
        chance = random.Random(2704)
        for turn in range(60):
            program = chance_program(chance, 5, 1, 2, 8)
            forms, most = by_grid(program)
            if most > 60:
                told += 1
                self.refused(60, forms_behind, program)
            else:
                self.assertEqual(forms_behind(program), forms)
        self.assertTrue(5 < told < 55, told)

    def test_sixty_and_sixty_one(self):
        # Each fourth power has four terms; with the three at the end and the shelf's own there are sixty.
        deeds = tuple([add(0, 1, (given,) * 4, (shelf,)) for given in range(7) for shelf in (1, 2)])
        extra = [add(0, 1, (7,), (shelf,)) for shelf in (1, 2, 3)]
        sixty = (97, 8, 4, deeds + tuple(extra))
        self.assertEqual(len(forms_behind(sixty)[0]), 60)
        self.refused(60, forms_behind, (97, 8, 4, sixty[3] + (add(0, 1, (6,), (3,)),)))
        self.refused(59, forms_behind, sixty, 59)

    def test_thirty_deeds(self):
        deeds = tuple([add(at % 2, 1, (), (1 - at % 2,)) for at in range(30)])
        # Each gets what the other one has: numbers of the row 1, 1, 2, 3, 5, 8 ..
        row = [1, 1]
        while len(row) < 31:
            row.append(row[-1] + row[-2])
        asked = [tuple([((0, 1), row[at] % 1000000), ((1, 0), row[at - 1] % 1000000)]) for at in (29, 30)]
        self.assertEqual(forms_behind((1000000, 0, 2, deeds)), tuple(asked))

    def test_a_form_of_very_many_terms_is_refused_at_once(self):
        deeds = (add(0, 1, (0, 1, 2, 3), (1, 2, 3, 4)), add(5, 1, (4, 5, 6, 7), (0, 6, 7, 8)), add(1, 1, (), (5, 5, 5, 5)))
        self.refused(60, forms_behind, (999983, 8, 9, deeds))


class TestExprForm(SymbolsTest):
    def test_told_ones(self):
        self.assertEqual(expr_form(10, 0, ("num", 13)), (((), 3),))
        self.assertEqual(expr_form(10, 2, ("num", 13)), (((0, 0), 3),))
        self.assertEqual(expr_form(10, 2, ("num", 20)), ())
        self.assertEqual(expr_form(10, 2, X1), (((0, 1), 1),))
        self.assertEqual(expr_form(10, 2, ("sum", X0, X1)), (((0, 1), 1), ((1, 0), 1)))
        self.assertEqual(expr_form(10, 2, ("less", X0, X1)), (((0, 1), 9), ((1, 0), 1)))
        self.assertEqual(expr_form(10, 2, ("times", X0, X1)), (((1, 1), 1),))
        self.assertEqual(expr_form(10, 1, ("times", X0, X0)), (((1,), 1), ((2,), 1)))
        self.assertEqual(expr_form(2, 1, ("times", X0, X0)), (((1,), 1),))
        self.assertEqual(expr_form(10, 3, ("less", X0, X0)), ())

    def test_chance(self):
        chance = random.Random(2705)
        for turn in range(250):
            n, givens = chance.choice(SMALL), chance.randint(0, 3)
            expr = chance_expr(chance, 4, givens)
            form, most = expr_by_grid(n, givens, expr)
            self.assertEqual(self.just(max(most, 1), expr_form, n, givens, expr), form)

    def test_great_n(self):
        chance = random.Random(2706)
        for turn in range(100):
            n = chance.choice([97, 720720, 999983, 1000000])
            expr = chance_expr(chance, 4)
            try:
                form = expr_form(n, 8, expr)
            except TooMany:
                continue
            for step in range(4):
                givens = chance_rests(chance, n, 8)
                self.assertEqual(worth_at(n, form, givens), worth(n, expr, givens))

    def test_all_expressions_in_it_count(self):
        square = ("times", X0, X0)
        self.just(2, expr_form, 97, 2, ("less", square, square))
        self.just(2, expr_form, 97, 2, ("times", ("num", 0), square))
        self.just(2, expr_form, 97, 2, ("times", square, ("num", 0)))
        self.just(3, expr_form, 97, 2, ("less", ("sum", square, ("num", 1)), square))
        # A square by itself has two terms, but of a product each part alone counts, and then the whole.
        self.just(4, expr_form, 97, 2, ("times", square, ("times", X1, X1)))
        self.just(1, expr_form, 97, 2, ("times", X0, X1))

    def test_most_left_out_is_60(self):
        # A power of 60 has 60 terms, one of 61 a term more.
        expr = X0
        for turn in range(59):
            expr = ("times", expr, X0)
        self.assertEqual(len(expr_form(999983, 1, expr)), 60)
        self.refused(60, expr_form, 999983, 1, ("times", expr, X0))
        self.assertEqual(len(expr_form(999983, 1, ("times", expr, X0), 61)), 61)

    def test_the_program_of_it_brings_it(self):
        chance = random.Random(2707)
        for turn in range(60):
            n = chance.choice(SMALL)
            expr = chance_expr(chance, 2, 2)
            told = forms_behind(program_of(n, 2, expr), 400)
            form = tuple([(steps + (0, 0, 0), number) for steps, number in expr_form(n, 2, expr)])
            self.assertEqual(told[0], tuple(sorted(form + letter(5, 2))))
            self.assertEqual(told[1:], (letter(5, 3), letter(5, 4)))


class TestAskedAgain(unittest.TestCase):
    def test_the_same_is_told(self):
        chance = random.Random(2708)
        asked = [(chance_program(chance, 6, 1, 2, 5), chance_expr(chance, 3, 2)) for turn in range(15)]
        ahead = [(forms_behind(program, 500), expr_form(6, 2, expr, 500)) for program, expr in asked]
        again = [(forms_behind(program, 500), expr_form(6, 2, expr, 500)) for program, expr in reversed(asked)]
        self.assertEqual(again, ahead[::-1])


if __name__ == "__main__":
    unittest.main()
