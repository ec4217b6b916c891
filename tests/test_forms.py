"""[25], [26]: forms of polynomials, of sums and products, their worth at points, where two of them part."""

import itertools
import math
import random
import unittest

from lentshelf.forms import first_unlike, form_of, form_product, form_sum, worth_at

SMALL = (2, 3, 4, 5, 6, 8, 9, 10, 12)
GREAT = (30, 64, 97, 720, 5040, 720720, 999983, 1000000)


def number_room(n, steps):
    """n // g of [25]."""
    return n // math.gcd(n, math.prod([math.factorial(e) for e in steps]))


def falling(x, e):
    return math.prod([x - less for less in range(e)])


def poly_worth(n, terms, point):
    """The polynomial's rest at a point."""
    return sum([number * math.prod([x ** e for x, e in zip(point, exponents)]) for exponents, number in terms]) % n


def form_worth(n, form, point):
    return sum([number * math.prod([falling(x, e) for x, e in zip(point, steps)]) for steps, number in form]) % n


def points(n, many):
    return itertools.product(range(n), repeat=many)


def chance_poly(chance, many, terms, deep):
    told = []
    for turn in range(terms):
        exponents = tuple([chance.randint(0, deep) for letter in range(many)])
        number = chance.choice([0, 1, -1, 2, -6, 1000000, -1000000, chance.randint(-1000000, 1000000)])
        told.append((exponents, number))
    return tuple(told)


def product_poly(one, other):
    told = []
    for exponents, number in one:
        for others, other_number in other:
            told.append((tuple([a + b for a, b in zip(exponents, others)]), number * other_number))
    return tuple(told)


class FormsTest(unittest.TestCase):
    def is_form(self, n, many, form):
        """Rising, each number from 1 to less than n // g."""
        self.assertIs(form.__class__, tuple)
        for term in form:
            self.assertIs(term.__class__, tuple)
            steps, number = term
            self.assertIs(steps.__class__, tuple)
            self.assertEqual(len(steps), many)
            self.assertEqual([e.__class__ for e in steps] + [number.__class__], [int] * (many + 1))
            self.assertTrue(1 <= number < number_room(n, steps), (n, term))
        rows = [steps for steps, number in form]
        self.assertTrue(all([one < other for one, other in zip(rows, rows[1:])]))


class TestFormOf(FormsTest):
    def test_told_ones(self):
        for n, terms, asked in (
                (10, (((1,), 1),), (((1,), 1),)),
                (97, (((2,), 1),), (((1,), 1), ((2,), 1))),
                (97, (((3,), 1),), (((1,), 1), ((2,), 3), ((3,), 1))),
                (97, (((4,), 2),), (((1,), 2), ((2,), 14), ((3,), 12), ((4,), 2))),
                (97, (((0,), -1),), (((0,), 96),)),
                # Squares are rests themselves by 2, cubes by 6.
                (2, (((2,), 1),), (((1,), 1),)),
                (6, (((3,), 1),), (((1,), 1),)),
                (6, (((3,), 1), ((1,), -1)), ()),
                # Of two steps n // g is half of n, where n is even: x x less x is twice something.
                (10, (((2,), 5), ((1,), -5)), ()),
                (10, (((2,), 7),), (((1,), 7), ((2,), 2))),
                (4, (((3,), 1),), (((1,), 1), ((2,), 1), ((3,), 1))),
                (4, (((2,), 2),), (((1,), 2),)),
                (4, (((4,), 1),), (((1,), 1), ((2,), 1))),
                (9, (((3,), 3),), (((1,), 3),)),
                (9, (((3,), 1),), (((1,), 1), ((2,), 3), ((3,), 1)))):
            self.assertEqual(form_of(n, 1, terms), asked, (n, terms))

    def test_two_letters(self):
        # x x y y: (steps 1 and steps 2) times (steps 1 and steps 2).
        square = (((2, 2), 1),)
        self.assertEqual(form_of(97, 2, square), (((1, 1), 1), ((1, 2), 1), ((2, 1), 1), ((2, 2), 1)))
        self.assertEqual(form_of(4, 2, square), (((1, 1), 1), ((1, 2), 1), ((2, 1), 1)))
        self.assertEqual(form_of(8, 2, (((2, 2), 5),)), (((1, 1), 5), ((1, 2), 1), ((2, 1), 1), ((2, 2), 1)))
        self.assertEqual(form_of(10, 2, (((1, 0), 3), ((0, 1), 4))), (((0, 1), 4), ((1, 0), 3)))

    def test_no_terms(self):
        for many in range(5):
            self.assertEqual(form_of(10, many, ()), ())
            self.assertEqual(form_of(10, many, (((3,) * many, 0),)), ())
            self.assertEqual(form_of(10, many, (((0,) * many, 1000000),)), ())

    def test_no_letters(self):
        self.assertEqual(form_of(10, 0, (((), 3),)), (((), 3),))
        self.assertEqual(form_of(10, 0, (((), 3), ((), -5))), (((), 8),))
        self.assertEqual(form_of(10, 0, (((), 3), ((), 7))), ())

    def test_exponents_alike_and_in_any_order(self):
        chance = random.Random(2500)
        for turn in range(60):
            n, many = chance.choice(SMALL + GREAT), chance.randint(0, 3)
            terms = chance_poly(chance, many, chance.randint(1, 8), 4)
            asked = form_of(n, many, terms)
            mixed = list(terms)
            chance.shuffle(mixed)
            self.assertEqual(form_of(n, many, tuple(mixed)), asked)
            split = [(exponents, part) for exponents, number in terms for part in (number - 7, 7)]
            self.assertEqual(form_of(n, many, tuple(split)), asked)
            more = [(exponents, number + n * chance.randint(-2, 2)) for exponents, number in terms]
            self.assertEqual(form_of(n, many, tuple(more)), asked)
            self.assertEqual(form_of(n, many, terms + tuple([(row, -number) for row, number in terms])), ())

    def test_the_same_rests_everywhere(self):
        chance = random.Random(2501)
        for turn in range(150):
            n, many = chance.choice(SMALL), chance.randint(0, 3)
            terms = chance_poly(chance, many, chance.randint(0, 12), 8)
            form = form_of(n, many, terms)
            self.is_form(n, many, form)
            for point in points(n, many):
                self.assertEqual(form_worth(n, form, point), poly_worth(n, terms, point))

    def test_the_same_rests_at_chance_points(self):
        chance = random.Random(2502)
        for turn in range(60):
            n, many = chance.choice(GREAT), chance.randint(0, 4)
            terms = chance_poly(chance, many, chance.choice([0, 1, 2, 12]), 4 if many == 4 else 8)
            form = form_of(n, many, terms)
            self.is_form(n, many, form)
            for step in range(6):
                point = tuple([chance.choice([0, 1, n - 1, chance.randrange(n)]) for letter in range(many)])
                self.assertEqual(form_worth(n, form, point), poly_worth(n, terms, point))

    def test_the_greatest_exponents(self):
        for n in (2, 12, 720720, 999983):
            terms = (((8, 8, 8, 8), -1000000), ((0, 8, 0, 8), 1000000))
            form = form_of(n, 4, terms)
            self.is_form(n, 4, form)
            for point in ((1, 1, 1, 1), (n - 1, 1, 0, 1), (1, n - 1, n // 2, 1)):
                self.assertEqual(form_worth(n, form, point), poly_worth(n, terms, point))


class TestOneForEach(FormsTest):
    """Two polynomials have the same rests everywhere just where their forms are the same."""

    def parts(self, n, many, rows):
        """All polynomials of these exponents: as many forms as there are unlike rows of rests."""
        by_rests, by_form = {}, {}
        for numbers in itertools.product(range(n), repeat=len(rows)):
            terms = tuple(zip(rows, numbers, strict=True))
            form = form_of(n, many, terms)
            rests = tuple([poly_worth(n, terms, point) for point in points(n, many)])
            self.assertEqual(by_rests.setdefault(rests, form), form)
            self.assertEqual(by_form.setdefault(form, rests), rests)
        return len(by_form)

    def test_one_letter(self):
        # Of steps e there are n // g numbers each, and of greater ones none more.
        for n, exponents, asked in ((2, range(5), 4), (3, range(5), 27), (4, range(5), 64), (6, range(4), 108),
                                    (8, range(4), 1024), (9, (0, 1, 3), None), (12, (1, 2, 4), None)):
            told = self.parts(n, 1, [(e,) for e in exponents])
            if asked is not None:
                self.assertEqual(told, asked)

    def test_two_letters(self):
        self.parts(4, 2, [(1, 1), (2, 1), (1, 2), (2, 2), (2, 0)])
        self.parts(2, 2, [(a, b) for a in range(3) for b in range(3)])
        self.parts(6, 2, [(2, 2), (3, 1), (1, 1), (0, 2)])
        self.parts(8, 2, [(2, 2), (1, 2), (1, 1)])
        self.parts(3, 3, [(2, 1, 1), (1, 1, 1), (3, 1, 0), (1, 0, 2), (1, 1, 0)])


class TestSumAndProduct(FormsTest):
    def both(self, n, many, one, other):
        first, second = form_of(n, many, one), form_of(n, many, other)
        added, times = form_sum(n, first, second), form_product(n, first, second)
        self.is_form(n, many, added)
        self.is_form(n, many, times)
        self.assertEqual(added, form_of(n, many, one + other))
        self.assertEqual(times, form_of(n, many, product_poly(one, other)))
        self.assertEqual(form_sum(n, second, first), added)
        self.assertEqual(form_product(n, second, first), times)
        return added, times

    def test_told_ones(self):
        x, y = (((1, 0), 1),), (((0, 1), 1),)
        self.assertEqual(form_sum(10, x, y), (((0, 1), 1), ((1, 0), 1)))
        self.assertEqual(form_sum(10, x, (((1, 0), 9),)), ())
        self.assertEqual(form_sum(10, (((2, 0), 3),), (((2, 0), 2),)), ())
        self.assertEqual(form_sum(10, (((2, 0), 3),), (((2, 0), 3),)), (((2, 0), 1),))
        self.assertEqual(form_product(10, x, y), (((1, 1), 1),))
        self.assertEqual(form_product(10, x, x), (((1, 0), 1), ((2, 0), 1)))
        self.assertEqual(form_product(2, x, x), x)
        self.assertEqual(form_product(10, (((2, 0), 1),), (((0, 2), 1),)), (((2, 2), 1),))
        self.assertEqual(form_product(4, (((2, 0), 1),), (((0, 2), 1),)), ())
        self.assertEqual(form_product(10, (((0, 0), 5),), (((0, 0), 4),)), ())
        # (x)2 times (x)2: (x)4, 4 times (x)3, 2 times (x)2.
        self.assertEqual(form_product(97, (((2,), 1),), (((2,), 1),)), (((2,), 2), ((3,), 4), ((4,), 1)))
        self.assertEqual(form_product(97, (((2,), 1),), (((3,), 1),)), (((3,), 6), ((4,), 6), ((5,), 1)))

    def test_no_terms_and_no_letters(self):
        x = (((1,), 1),)
        self.assertEqual(form_sum(10, (), ()), ())
        self.assertEqual(form_sum(10, x, ()), x)
        self.assertEqual(form_sum(10, (), x), x)
        for one, other in (((), ()), (x, ()), ((), x)):
            self.assertEqual(form_product(10, one, other), ())
        self.assertEqual(form_sum(10, (((), 3),), (((), 9),)), (((), 2),))
        self.assertEqual(form_product(10, (((), 3),), (((), 9),)), (((), 7),))
        self.assertEqual(form_product(10, (((), 5),), (((), 2),)), ())

    def test_against_the_rests(self):
        chance = random.Random(2503)
        for turn in range(120):
            n, many = chance.choice(SMALL), chance.randint(0, 3)
            one = chance_poly(chance, many, chance.randint(0, 6), 6)
            other = chance_poly(chance, many, chance.randint(0, 6), 6)
            added, times = self.both(n, many, one, other)
            for point in itertools.islice(points(n, many), 200):
                first, second = poly_worth(n, one, point), poly_worth(n, other, point)
                self.assertEqual(form_worth(n, added, point), (first + second) % n)
                self.assertEqual(form_worth(n, times, point), first * second % n)

    def test_great_n(self):
        chance = random.Random(2504)
        for turn in range(60):
            n, many = chance.choice(GREAT), chance.randint(0, 3)
            one = chance_poly(chance, many, chance.randint(0, 4), 5)
            other = chance_poly(chance, many, chance.randint(0, 4), 5)
            self.both(n, many, one, other)

    def test_many_letters_and_few_terms(self):
        chance = random.Random(2505)
        for turn in range(12):
            n = chance.choice(SMALL + GREAT)
            one = tuple([(tuple([chance.choice([0, 0, 1]) for letter in range(12)]), 1 + step) for step in range(3)])
            other = tuple([(tuple([chance.choice([0, 0, 0, 2]) for letter in range(12)]), 1 + step) for step in range(2)])
            self.both(n, 12, one, other)

    def test_as_much_as_may_be_handed_in(self):
        chance = random.Random(2506)
        for n in (12, 720720):
            one, other = chance_poly(chance, 4, 12, 8), chance_poly(chance, 4, 12, 8)
            times = form_product(n, form_of(n, 4, one), form_of(n, 4, other))
            self.is_form(n, 4, times)
            for step in range(3):
                point = tuple([chance.randrange(n) for letter in range(4)])
                self.assertEqual(form_worth(n, times, point), poly_worth(n, one, point) * poly_worth(n, other, point) % n)


class TestWorthAt(FormsTest):
    def test_told_ones(self):
        form = (((0, 0), 5), ((0, 2), 1), ((3, 1), 2))
        self.assertEqual(worth_at(100, form, (0, 0)), 5)
        self.assertEqual(worth_at(100, form, (2, 3)), 11)
        self.assertEqual(worth_at(100, form, (4, 5)), 65)
        self.assertEqual(worth_at(100, form, (99, 99)), (5 + 2 + 2 * 6) % 100)
        self.assertEqual(worth_at(10, (), (3, 4)), 0)
        self.assertEqual(worth_at(10, (), ()), 0)
        self.assertEqual(worth_at(10, (((), 7),), ()), 7)

    def test_chance(self):
        chance = random.Random(2507)
        for turn in range(200):
            n, many = chance.choice(SMALL + GREAT), chance.randint(0, 3)
            terms = chance_poly(chance, many, chance.randint(0, 8), 6)
            point = tuple([chance.choice([0, 1, n - 1, chance.randrange(n)]) for letter in range(many)])
            told = worth_at(n, form_of(n, many, terms), point)
            self.assertEqual(told, poly_worth(n, terms, point))
            self.assertIs(told.__class__, int)


class TestFirstUnlike(FormsTest):
    def test_told_ones(self):
        x, square = (((1,), 1),), (((1,), 1), ((2,), 1))
        self.assertIsNone(first_unlike(10, x, x))
        self.assertIsNone(first_unlike(10, (), ()))
        self.assertEqual(first_unlike(10, x, square), (2,))
        self.assertEqual(first_unlike(10, (), square), (1,))
        self.assertEqual(first_unlike(10, (((0,), 1),), square), (0,))
        self.assertEqual(first_unlike(10, (((0, 3), 1),), (((1, 0), 1),)), (0, 3))
        self.assertEqual(first_unlike(10, (((1, 0), 1),), (((1, 0), 2), ((1, 3), 1))), (1, 0))
        self.assertEqual(first_unlike(10, (((1, 0), 1), ((1, 3), 1)), (((1, 0), 1),)), (1, 3))
        self.assertEqual(first_unlike(10, (((), 3),), ()), ())
        self.assertIsNone(first_unlike(10, (((), 3),), (((), 3),)))

    def test_chance(self):
        chance = random.Random(2508)
        alike = 0
        for turn in range(400):
            n, many = chance.choice(SMALL + GREAT), chance.randint(0, 3)
            one = chance_poly(chance, many, chance.randint(0, 5), 4)
            other = one + chance_poly(chance, many, chance.randint(0, 1), 4)
            first, second = form_of(n, many, one), form_of(n, many, other)
            told = first_unlike(n, first, second)
            less = form_of(n, many, one + tuple([(row, -number) for row, number in other]))
            self.assertEqual(first_unlike(n, second, first), told)
            if first == second:
                alike += 1
                self.assertIsNone(told)
                continue
            self.assertEqual(told, less[0][0])
            self.assertTrue(all([0 <= letter < n for letter in told]))
            self.assertNotEqual(poly_worth(n, one, told), poly_worth(n, other, told))
        self.assertTrue(50 < alike < 350)


class TestAskedAgain(unittest.TestCase):
    def test_the_same_is_told(self):
        chance = random.Random(2509)
        asked = []
        for turn in range(20):
            many = chance.randint(0, 3)
            asked.append((chance.choice(SMALL + GREAT), many, chance_poly(chance, many, 4, 5), chance_poly(chance, many, 4, 5)))

        def told(n, many, one, other):
            first, second = form_of(n, many, one), form_of(n, many, other)
            point = (1,) * many
            return (first, form_sum(n, first, second), form_product(n, first, second), worth_at(n, first, point),
                    first_unlike(n, first, second))

        ahead = [told(*one) for one in asked]
        self.assertEqual([told(*one) for one in reversed(asked)], ahead[::-1])


if __name__ == "__main__":
    unittest.main()
