"""[18], [19], and of [3] sayings: worth 1 where they hold, else 0."""

import itertools
import math
import random
import unittest

from lentshelf.errors import LentError, NoInverse
from lentshelf.expressions import words, worth
from lentshelf.making import how_many, program_of
from lentshelf.running import run
from lentshelf.sayings import holds, said
from samples import chance_rests

YES = [("yes", i) for i in range(8)]
X = [("given", i) for i in range(8)]
# Numbers by which 1 to 5 have inverses.
FREE = [7, 11, 49, 77, 97, 1001, 999983, 999997]


def num(k):
    return ("num", k)


def saying_words(saying):
    if saying[0] == "yes":
        return 1
    if saying[0] == "least":
        return 1 + sum([saying_words(part) for part in saying[2]])
    return 1 + sum([saying_words(part) for part in saying[1:]])


def chance_saying(chance, left):
    """A saying of at most so many words."""
    word = chance.choice(["yes", "not", "and", "or", "least", "least"])
    if left == 1 or word == "yes":
        return ("yes", chance.randrange(8))
    if word == "not":
        return ("not", chance_saying(chance, left - 1))
    most = min(5, left - 1) if word == "least" else 2
    many = chance.randint(1, most) if word == "least" else 2
    if many > left - 1:
        return ("yes", chance.randrange(8))
    parts = []
    room = left - 1
    for at in range(many):
        part = chance_saying(chance, chance.randint(1, room - (many - 1 - at)))
        parts.append(part)
        room -= saying_words(part)
    if word == "least":
        return ("least", chance.randint(0, 6), tuple(parts))
    return (word, parts[0], parts[1])


def mark(saying, answers):
    """1 or 0, as the saying holds, by sums and products alone."""
    if saying[0] == "yes":
        return answers[saying[1]]
    if saying[0] == "not":
        return 1 - mark(saying[1], answers)
    if saying[0] == "least":
        return int(sum([mark(part, answers) for part in saying[2]]) >= saying[1])
    one, other = mark(saying[1], answers), mark(saying[2], answers)
    return one * other if saying[0] == "and" else max(one, other)


def leasts(saying):
    """All leasts in it, in the order in which they are due."""
    parts = saying[2] if saying[0] == "least" else saying[1:] if saying[0] != "yes" else ()
    told = [inner for part in parts for inner in leasts(part)]
    return told + ([saying] if saying[0] == "least" else [])


def due(n, saying):
    """The number that is refused, or None."""
    for least in leasts(saying):
        for number in range(1, len(least[2]) + 1):
            if math.gcd(n, number) != 1:
                return number
    return None


def built(n, saying):
    """The expression as it is told, differences by binomials and inverses by Python's own power."""
    if saying[0] == "yes":
        return ("given", saying[1])
    if saying[0] == "not":
        return ("less", num(1), built(n, saying[1]))
    if saying[0] == "least":
        return built_least(n, saying[1], [built(n, part) for part in saying[2]])
    one, other = built(n, saying[1]), built(n, saying[2])
    if saying[0] == "and":
        return ("times", one, other)
    return ("less", ("sum", one, other), ("times", one, other))


def built_least(n, k, args):
    m = len(args)

    def total(many):
        return args[0] if many == 1 else ("sum", total(many - 1), args[many - 1])

    def a(i):
        D = sum([(-1) ** (i - j) * math.comb(i, j) * (1 if j >= k else 0) for j in range(i + 1)])
        return D * pow(math.factorial(i), -1, n) % n

    def e(i):
        if i == m:
            return num(a(m))
        return ("sum", num(a(i)), ("times", ("less", total(m), num(i)), e(i + 1)))

    return e(0)


class TestHolds(unittest.TestCase):
    def test_yes(self):
        for i in range(8):
            for answers in ((0,) * 8, (1,) * 8, (0, 1) * 4, (1, 0) * 4):
                self.assertIs(holds(("yes", i), answers), answers[i] == 1)
        self.assertIs(holds(("yes", 0), (1,)), True)
        self.assertIs(holds(("yes", 0), (0,)), False)

    def test_not_and_or(self):
        for a, b in itertools.product((0, 1), repeat=2):
            self.assertIs(holds(("not", YES[0]), (a, b)), a == 0)
            self.assertIs(holds(("not", ("not", YES[1])), (a, b)), b == 1)
            self.assertIs(holds(("and", YES[0], YES[1]), (a, b)), a + b == 2)
            self.assertIs(holds(("or", YES[0], YES[1]), (a, b)), a + b > 0)
            self.assertIs(holds(("and", YES[0], ("not", YES[1])), (a, b)), a > b)
            self.assertIs(holds(("or", ("not", YES[0]), YES[1]), (a, b)), a <= b)

    def test_least(self):
        for m in range(1, 6):
            for k in range(7):
                for answers in itertools.product((0, 1), repeat=m):
                    self.assertIs(holds(("least", k, tuple(YES[:m])), answers), sum(answers) >= k)

    def test_an_arg_counts_as_often_as_it_stands(self):
        self.assertIs(holds(("least", 2, (YES[0], YES[0])), (1,)), True)
        self.assertIs(holds(("least", 3, (YES[0], YES[0], YES[1])), (1, 0)), False)
        self.assertIs(holds(("least", 3, (YES[0], YES[0], YES[1])), (1, 1)), True)

    def test_within_one_another(self):
        saying = ("or", ("least", 2, (YES[0], ("not", YES[1]), ("and", YES[2], YES[3]))), ("least", 1, (YES[4],)))
        for answers in itertools.product((0, 1), repeat=5):
            self.assertIs(holds(saying, answers), mark(saying, answers) == 1)

    def test_chance(self):
        chance = random.Random(1800)
        told = []
        for turn in range(600):
            saying = chance_saying(chance, 10)
            self.assertLessEqual(saying_words(saying), 10)
            answers = tuple([chance.randrange(2) for i in range(8)])
            told.append(holds(saying, answers))
            self.assertIs(told[-1], mark(saying, answers) == 1)
        self.assertGreater(told.count(True), 100)
        self.assertGreater(told.count(False), 100)


class TestSaid(unittest.TestCase):
    def test_yes_not_and_or(self):
        for n in (2, 10, 1000000):
            for i in range(8):
                self.assertEqual(said(n, YES[i]), X[i])
            self.assertEqual(said(n, ("not", YES[3])), ("less", num(1), X[3]))
            self.assertEqual(said(n, ("and", YES[3], YES[0])), ("times", X[3], X[0]))
            self.assertEqual(said(n, ("or", YES[3], YES[0])), ("less", ("sum", X[3], X[0]), ("times", X[3], X[0])))

    def test_within_one_another(self):
        one, other = ("less", num(1), X[1]), ("times", X[2], X[0])
        saying = ("or", ("not", YES[1]), ("and", YES[2], YES[0]))
        self.assertEqual(said(10, saying), ("less", ("sum", one, other), ("times", one, other)))
        self.assertEqual(said(10, ("and", ("and", YES[2], YES[0]), ("not", YES[1]))), ("times", other, one))
        self.assertEqual(said(10, ("not", ("not", YES[1]))), ("less", num(1), one))

    def test_least_of_one(self):
        for n in (2, 6, 7):
            for k, first, second in ((0, 1, 0), (1, 0, 1), (2, 0, 0), (6, 0, 0)):
                asked = ("sum", num(first), ("times", ("less", X[5], num(0)), num(second)))
                self.assertEqual(said(n, ("least", k, (YES[5],))), asked)

    def test_least_of_two(self):
        s = ("sum", X[0], X[1])

        def e(a, b, c):
            inner = ("sum", num(b), ("times", ("less", s, num(1)), num(c)))
            return ("sum", num(a), ("times", ("less", s, num(0)), inner))

        # The rows are 1 1 1, 0 1 1, 0 0 1 and 0 0 0; the half of 1 by 7 is 4.
        self.assertEqual(said(7, ("least", 0, (YES[0], YES[1]))), e(1, 0, 0))
        self.assertEqual(said(7, ("least", 1, (YES[0], YES[1]))), e(0, 1, 3))
        self.assertEqual(said(7, ("least", 2, (YES[0], YES[1]))), e(0, 0, 4))
        self.assertEqual(said(7, ("least", 3, (YES[0], YES[1]))), e(0, 0, 0))

    def test_least_of_three(self):
        s = ("sum", ("sum", X[2], X[1]), X[0])
        # 0 0 1 1: then 0 1 0, 1 -1, -2; by rests of 7 the half of 1 is 4 and the sixth of -2 is 2.
        inner = ("sum", num(4), ("times", ("less", s, num(2)), num(2)))
        inner = ("sum", num(0), ("times", ("less", s, num(1)), inner))
        asked = ("sum", num(0), ("times", ("less", s, num(0)), inner))
        self.assertEqual(said(7, ("least", 2, (YES[2], YES[1], YES[0]))), asked)

    def test_all_leasts(self):
        for n in FREE:
            for m in range(1, 6):
                for k in range(7):
                    saying = ("least", k, tuple(YES[:m]))
                    self.assertEqual(said(n, saying), built(n, saying))

    def test_chance(self):
        chance = random.Random(1801)
        for turn in range(400):
            n, saying = chance.choice(FREE), chance_saying(chance, 10)
            self.assertEqual(said(n, saying), built(n, saying))

    def test_nums_are_whole_numbers_and_rests(self):
        def nums(expr):
            if expr[0] == "num":
                return [expr[1]]
            return [] if expr[0] == "given" else nums(expr[1]) + nums(expr[2])

        for k in range(7):
            for number in nums(said(7, ("least", k, tuple(YES[:5])))):
                self.assertIs(number.__class__, int)
                self.assertTrue(0 <= number < 7)


class TestNoInverse(unittest.TestCase):
    def refused(self, number, n, saying):
        with self.assertRaises(NoInverse) as caught:
            said(n, saying)
        self.assertIs(caught.exception.number.__class__, int)
        self.assertEqual(caught.exception.number, number, (n, saying))
        self.assertIsInstance(caught.exception, LentError)

    def as_due(self, n, saying):
        number = due(n, saying)
        if number is None:
            self.assertEqual(said(n, saying), built(n, saying))
        else:
            self.refused(number, n, saying)

    def test_each_n_and_each_number_of_args(self):
        for n in list(range(2, 40)) + [1000000, 999999, 999995]:
            for m in range(1, 6):
                for k in (0, 1, m, 6):
                    self.as_due(n, ("least", k, tuple(YES[:m])))

    def test_told_ones(self):
        self.refused(2, 10, ("least", 1, (YES[0], YES[1])))
        self.refused(2, 6, ("least", 0, tuple(YES[:5])))
        self.refused(3, 9, ("least", 6, tuple(YES[:3])))
        self.refused(3, 15, ("least", 2, tuple(YES[:5])))
        self.refused(5, 25, ("least", 2, tuple(YES[:5])))
        self.refused(2, 2, ("least", 2, tuple(YES[:2])))
        for n in (2, 4, 6, 1000000):
            self.assertEqual(said(n, ("least", 1, (YES[0],)))[0], "sum")
        self.assertEqual(said(9, ("least", 1, tuple(YES[:2])))[0], "sum")
        self.assertEqual(said(25, ("least", 1, tuple(YES[:4])))[0], "sum")

    def test_the_first_least_that_is_due(self):
        three, five = ("least", 1, tuple(YES[:3])), ("least", 1, tuple(YES[:5]))
        for word in ("and", "or"):
            self.refused(3, 15, (word, three, five))
            self.refused(5, 25, (word, three, five))
        # By rests of 35 a least of three is free, a least of five isn't.
        self.refused(5, 35, ("and", three, five))
        self.refused(5, 35, ("not", five))

    def test_args_ahead_of_the_least_itself(self):
        # The number is n's least divisor above 1 whichever least is due, so what shows is that one is refused.
        inner = ("least", 1, tuple(YES[:5]))
        outer = ("least", 1, (inner, YES[0]))
        self.refused(5, 5, outer)
        self.refused(5, 25, outer)
        self.refused(2, 10, outer)
        for n in (6, 10, 15, 30):
            for one, other in itertools.product(range(1, 6), repeat=2):
                first, second = ("least", 1, tuple(YES[:one])), ("least", 2, tuple(YES[:other]))
                for saying in (("and", first, second), ("or", second, first), ("not", first),
                               ("least", 1, (first, second)), ("least", 3, (YES[0], second, first)),
                               ("least", 2, (YES[0], ("not", ("and", first, YES[1])), YES[2], second))):
                    self.as_due(n, saying)

    def test_chance(self):
        chance = random.Random(1802)
        refused = 0
        for turn in range(500):
            n, saying = chance.choice([2, 3, 4, 5, 6, 9, 10, 15, 25, 35, 1000000]), chance_saying(chance, 10)
            refused += due(n, saying) is not None
            self.as_due(n, saying)
        self.assertGreater(refused, 50)

    def test_not_for_what_is_no_least(self):
        saying = ("or", ("and", YES[0], ("not", YES[1])), ("not", ("or", YES[2], YES[3])))
        for n in (2, 4, 6, 30, 1000000):
            self.assertEqual(said(n, saying), built(n, saying))


class TestWorth(unittest.TestCase):
    """Of [3]: worth 1 where the saying holds, else 0."""

    def test_all_leasts_and_answers(self):
        for n in (7, 49, 1001):
            for m in range(1, 6):
                for k in range(7):
                    expr = said(n, ("least", k, tuple(YES[:m])))
                    for answers in itertools.product((0, 1), repeat=m):
                        self.assertEqual(worth(n, expr, answers), 1 if sum(answers) >= k else 0)

    def test_by_small_n(self):
        for n in range(2, 12):
            for m in range(1, 6):
                if due(n, ("least", 0, tuple(YES[:m]))) is None:
                    for k, answers in itertools.product(range(7), itertools.product((0, 1), repeat=m)):
                        expr = said(n, ("least", k, tuple(YES[:m])))
                        self.assertEqual(worth(n, expr, answers), 1 if sum(answers) >= k else 0)

    def test_chance(self):
        chance = random.Random(1803)
        for turn in range(300):
            n, saying = chance.choice(FREE + [2, 3, 4, 10, 25]), chance_saying(chance, 10)
            if due(n, saying) is not None:
                continue
            expr = said(n, saying)
            for step in range(6):
                answers = tuple([chance.randrange(2) for i in range(8)])
                self.assertEqual(worth(n, expr, answers), 1 if holds(saying, answers) else 0)

    def test_the_program_brings_it(self):
        chance = random.Random(1804)
        for turn in range(60):
            saying = chance_saying(chance, 6)
            expr = said(97, saying)
            if how_many(expr) > 5000:
                continue
            program = program_of(97, 8, expr)
            answers = tuple([chance.randrange(2) for i in range(8)])
            lies = chance_rests(chance, 97, 3)
            asked = ((lies[0] + mark(saying, answers)) % 97,) + lies[1:]
            self.assertEqual(run(program, answers, lies), asked)

    def test_a_great_saying(self):
        saying = ("least", 2, (YES[0], YES[1], YES[2], YES[3], ("least", 2, tuple(YES[4:8]))))
        self.assertEqual(saying_words(saying), 10)
        expr = said(97, saying)
        self.assertEqual(expr, built(97, saying))
        self.assertGreater(words(expr), 200)
        for answers in itertools.product((0, 1), repeat=8):
            self.assertEqual(worth(97, expr, answers), mark(saying, answers))


class TestAskedAgain(unittest.TestCase):
    def test_the_same_is_told(self):
        chance = random.Random(1805)
        sayings = [chance_saying(chance, 10) for turn in range(30)]
        answers = (1, 0, 0, 1, 1, 0, 1, 0)
        ahead = [(said(97, saying), holds(saying, answers)) for saying in sayings]
        later = [(said(97, saying), holds(saying, answers)) for saying in reversed(sayings)]
        self.assertEqual(ahead, later[::-1])


if __name__ == "__main__":
    unittest.main()
