"""[8] and [10]: programs looked at, turned back, one behind another, renamed."""

import itertools
import math
import random
import unittest

from lentshelf.errors import LentError, NoDeed, NoRest
from lentshelf.programs import behind, deeds_back, look, renamed, turned_back
from samples import chance_program

GOOD = ("add", 0, 1, (), (1,))

# By rests of 10, with 3 givens and 4 shelves.
LET_BY = [
    ("add", 0, 0, (), ()),
    ("add", 3, 9, (), ()),
    ("add", 0, 1, (0,), (1,)),
    ("add", 0, 5, (0, 1, 2, 2), (1, 2, 3, 3)),
    ("add", 2, 5, (2, 2, 2, 2), (0, 0, 3, 3)),
    ("add", 1, 4, (0, 0), (0, 0, 0, 0)),
    ("scale", 0, 1),
    ("scale", 3, 9),
    ("scale", 1, 3),
    ("scale", 2, 7),
]

NOT_LET_BY = [
    ("add", 4, 1, (), ()),
    ("add", 9, 1, (), ()),
    ("add", -1, 1, (), ()),
    ("add", -4, 1, (), ()),
    ("add", 10 ** 17, 1, (), ()),
    ("add", 0, 10, (), ()),
    ("add", 0, 11, (), ()),
    ("add", 0, -1, (), ()),
    ("add", 0, -10, (), ()),
    ("add", 0, 10 ** 17, (), ()),
    ("add", 0, 1, (3,), ()),
    ("add", 0, 1, (0, 3), ()),
    ("add", 0, 1, (-1,), ()),
    ("add", 0, 1, (-1, 0), ()),
    ("add", 0, 1, (10 ** 17,), ()),
    ("add", 0, 1, (1, 0), ()),
    ("add", 0, 1, (0, 2, 1), ()),
    ("add", 0, 1, (0, 1, 2, 1), ()),
    ("add", 0, 1, (0, 0, 0, 0, 0), ()),
    ("add", 0, 1, (0, 0, 1, 1, 2), ()),
    ("add", 0, 1, (), (4,)),
    ("add", 0, 1, (), (1, 4)),
    ("add", 0, 1, (), (-1,)),
    ("add", 0, 1, (), (-1, 1)),
    ("add", 0, 1, (), (-10 ** 17,)),
    ("add", 0, 1, (), (2, 1)),
    ("add", 0, 1, (), (1, 3, 2)),
    ("add", 0, 1, (), (1, 1, 1, 1, 1)),
    ("add", 0, 1, (), (1, 1, 2, 2, 3)),
    ("add", 0, 1, (), (0,)),
    ("add", 0, 1, (), (0, 1)),
    ("add", 2, 1, (), (1, 2)),
    ("add", 3, 1, (), (1, 1, 1, 3)),
    ("add", 2, 1, (0,), (1, 2, 3)),
    ("add", 0, 0, (), (0,)),
    ("add", 0, 0, (7,), ()),
    ("scale", 4, 1),
    ("scale", -1, 1),
    ("scale", 10 ** 17, 1),
    ("scale", 0, 0),
    ("scale", 0, 2),
    ("scale", 0, 4),
    ("scale", 0, 5),
    ("scale", 0, 6),
    ("scale", 0, 10),
    ("scale", 0, 11),
    ("scale", 0, 13),
    ("scale", 0, -1),
    ("scale", 0, -3),
    ("scale", 0, 10 ** 17 + 1),
]


class TestLook(unittest.TestCase):
    def refused(self, program, at):
        with self.assertRaises(NoDeed) as caught:
            look(program)
        self.assertEqual(caught.exception.at, at, program)
        self.assertIsInstance(caught.exception, LentError)

    def test_let_by(self):
        self.assertIs(look((10, 3, 4, tuple(LET_BY))), True)
        for deed in LET_BY:
            self.assertIs(look((10, 3, 4, (deed,))), True, deed)

    def test_without_deeds(self):
        for n in (2, 10, 1000000):
            for givens in range(9):
                for shelves in range(1, 10):
                    self.assertIs(look((n, givens, shelves, ())), True)

    def test_not_let_by(self):
        for deed in NOT_LET_BY:
            with self.subTest(deed=deed):
                self.refused((10, 3, 4, (deed,)), 0)
                self.refused((10, 3, 4, (GOOD, deed)), 1)
                self.refused((10, 3, 4, (GOOD, GOOD, deed, GOOD)), 2)

    def test_the_first_one_is_told(self):
        for one, other in itertools.product(NOT_LET_BY, repeat=2):
            self.refused((10, 3, 4, (GOOD, one, GOOD, other, GOOD)), 1)
        self.refused((10, 3, 4, (GOOD,) * 4999 + (NOT_LET_BY[0],)), 4999)

    def test_no_givens_and_one_shelf(self):
        self.assertIs(look((10, 0, 1, (("add", 0, 3, (), ()), ("scale", 0, 3)))), True)
        self.refused((10, 0, 1, (("add", 0, 3, (0,), ()),)), 0)
        self.refused((10, 0, 1, (("add", 0, 3, (), (1,)),)), 0)
        self.refused((10, 0, 1, (("add", 0, 3, (), (0,)),)), 0)
        self.refused((10, 0, 1, (("add", 1, 3, (), ()),)), 0)

    def test_all_shelves_and_givens(self):
        for givens in range(9):
            for given in range(-1, 10):
                program = (10, givens, 2, (("add", 0, 1, (given,), ()),))
                if 0 <= given < givens:
                    self.assertIs(look(program), True)
                else:
                    self.refused(program, 0)
        for shelves in range(1, 10):
            for shelf in range(-1, 11):
                program = (10, 0, shelves, (("add", shelf, 1, (), ()),))
                scaled = (10, 0, shelves, (("scale", shelf, 1),))
                if 0 <= shelf < shelves:
                    self.assertIs(look(program), True)
                    self.assertIs(look(scaled), True)
                else:
                    self.refused(program, 0)
                    self.refused(scaled, 0)

    def test_which_scales_have_an_inverse(self):
        for n in list(range(2, 40)) + [999983, 1000000]:
            for u in list(range(-3, 60)) + [n - 2, n - 1, n, n + 1]:
                program = (n, 0, 1, (("scale", 0, u),))
                if 0 <= u < n and math.gcd(u, n) == 1:
                    self.assertIs(look(program), True)
                else:
                    self.refused(program, 0)

    def test_all_short_rows_of_factors(self):
        for many in range(6):
            for numbers in itertools.product(range(-1, 4), repeat=many):
                right = many <= 4 and list(numbers) == sorted(numbers) and set(numbers) <= {0, 1, 2}
                program = (7, 3, 4, (("add", 3, 1, numbers, ()),))
                self.check(program, right)
                right = many <= 4 and list(numbers) == sorted(numbers) and set(numbers) <= {0, 2, 3}
                program = (7, 3, 4, (("add", 1, 1, (), numbers),))
                self.check(program, right)

    def check(self, program, right):
        if right:
            self.assertIs(look(program), True)
        else:
            self.refused(program, 0)

    def test_no_rests_below_2(self):
        for n in (1, 0, -1, -2, -10, -10 ** 17):
            for deeds in ((), (GOOD,), (NOT_LET_BY[0],), (("scale", 0, 0),), (("scale", 5, 3), GOOD)):
                with self.assertRaises(NoRest) as caught:
                    look((n, 3, 4, deeds))
                self.assertIsInstance(caught.exception, LentError)

    def test_the_least_and_the_greatest_n(self):
        self.assertIs(look((2, 0, 2, (("add", 0, 1, (), (1,)), ("scale", 1, 1)))), True)
        self.refused((2, 0, 2, (("add", 0, 2, (), (1,)),)), 0)
        self.assertIs(look((1000000, 0, 1, (("add", 0, 999999, (), ()), ("scale", 0, 999999)))), True)
        self.refused((1000000, 0, 1, (("add", 0, 1000000, (), ()),)), 0)

    def test_chance_programs_are_let_by(self):
        chance = random.Random(80)
        for turn in range(300):
            self.assertIs(look(chance_program(chance)), True)

    def test_asked_again(self):
        program = (10, 3, 4, tuple(LET_BY))
        self.assertIs(look(program), True)
        self.refused((10, 3, 4, (NOT_LET_BY[0],)), 0)
        self.assertIs(look(program), True)
        self.refused((10, 3, 4, (NOT_LET_BY[0],)), 0)


class TestTurnedBack(unittest.TestCase):
    def test_told_ones(self):
        deeds = (("add", 0, 3, (1, 1), (2,)), ("scale", 1, 3), ("add", 2, 0, (), ()), ("scale", 0, 1))
        back = (("scale", 0, 1), ("add", 2, 0, (), ()), ("scale", 1, 7), ("add", 0, 7, (1, 1), (2,)))
        self.assertEqual(turned_back((10, 2, 3, deeds)), (10, 2, 3, back))
        self.assertEqual(deeds_back(10, deeds), back)

    def test_without_deeds(self):
        self.assertEqual(turned_back((7, 8, 9, ())), (7, 8, 9, ()))
        self.assertEqual(deeds_back(7, ()), ())

    def test_each_number(self):
        for n in (2, 3, 10, 12, 97):
            for number in range(n):
                (deed,) = deeds_back(n, (("add", 1, number, (0,), (0, 2)),))
                self.assertEqual(deed, ("add", 1, (n - number) % n, (0,), (0, 2)))
                if math.gcd(n, number) == 1:
                    (deed,) = deeds_back(n, (("scale", 1, number),))
                    self.assertEqual(deed[:2], ("scale", 1))
                    self.assertTrue(0 <= deed[2] < n)
                    self.assertEqual(deed[2] * number % n, 1)

    def test_greatest_n(self):
        self.assertEqual(deeds_back(1000000, (("add", 0, 1, (), ()), ("scale", 0, 3))),
                         (("scale", 0, 666667), ("add", 0, 999999, (), ())))

    def test_twice_is_the_same_program(self):
        chance = random.Random(100)
        for turn in range(300):
            program = chance_program(chance)
            back = turned_back(program)
            self.assertIs(look(back), True)
            self.assertEqual(back[:3], program[:3])
            self.assertEqual(back[3], deeds_back(program[0], program[3]))
            self.assertEqual(turned_back(back), program)

    def test_parts_turned_back(self):
        chance = random.Random(101)
        for turn in range(50):
            n, givens, shelves, deeds = chance_program(chance)
            for cut in range(len(deeds) + 1):
                self.assertEqual(deeds_back(n, deeds), deeds_back(n, deeds[cut:]) + deeds_back(n, deeds[:cut]))


class TestBehind(unittest.TestCase):
    def test_the_greater_numbers(self):
        one = (10, 2, 5, (("add", 4, 1, (1,), ()),))
        other = (10, 7, 3, (("scale", 2, 3), ("add", 0, 2, (6,), (1,))))
        self.assertEqual(behind(one, other), (10, 7, 5, one[3] + other[3]))
        self.assertEqual(behind(other, one), (10, 7, 5, other[3] + one[3]))

    def test_all_numbers(self):
        for a, b in itertools.product(range(9), repeat=2):
            self.assertEqual(behind((9, a, b + 1, ()), (9, b, a + 1, ())), (9, max(a, b), max(a, b) + 1, ()))
            self.assertEqual(behind((9, a, 3, ()), (9, b, 3, ()))[1:3], (max(a, b), 3))
            self.assertEqual(behind((9, 3, a + 1, ()), (9, 3, b + 1, ()))[1:3], (3, max(a, b) + 1))

    def test_without_deeds(self):
        one = (10, 2, 5, (("add", 4, 1, (1,), ()),))
        self.assertEqual(behind(one, (10, 0, 1, ())), one)
        self.assertEqual(behind((10, 0, 1, ()), one), one)

    def test_let_by(self):
        chance = random.Random(102)
        for turn in range(100):
            n = chance.choice([2, 10, 97])
            one, other = chance_program(chance, n), chance_program(chance, n)
            told = behind(one, other)
            self.assertIs(look(told), True)
            self.assertEqual(told[3], one[3] + other[3])
            self.assertEqual(turned_back(told), behind(turned_back(other), turned_back(one)))


class TestRenamed(unittest.TestCase):
    def test_told_ones(self):
        deeds = (("add", 0, 3, (0, 1), (1, 2)), ("scale", 2, 7), ("add", 1, 2, (), (0, 0, 2)))
        self.assertEqual(
            renamed((10, 2, 3, deeds), (4, 8, 0)),
            (10, 2, 9, (("add", 4, 3, (0, 1), (0, 8)), ("scale", 0, 7), ("add", 8, 2, (), (0, 4, 4)))))

    def test_as_many_shelves_as_the_greatest_and_one(self):
        self.assertEqual(renamed((10, 0, 1, ()), (0,)), (10, 0, 1, ()))
        self.assertEqual(renamed((10, 0, 1, ()), (8,)), (10, 0, 9, ()))
        self.assertEqual(renamed((10, 0, 3, ()), (2, 0, 1)), (10, 0, 3, ()))
        self.assertEqual(renamed((10, 4, 3, ()), (2, 5, 1)), (10, 4, 6, ()))
        self.assertEqual(renamed((10, 0, 9, ()), (8, 7, 6, 5, 4, 3, 2, 1, 0)), (10, 0, 9, ()))

    def test_the_same_places(self):
        chance = random.Random(103)
        for turn in range(100):
            program = chance_program(chance)
            self.assertEqual(renamed(program, tuple(range(program[2]))), program)

    def test_there_and_back(self):
        chance = random.Random(104)
        for turn in range(200):
            program = chance_program(chance)
            places = list(range(program[2]))
            chance.shuffle(places)
            back = tuple([places.index(shelf) for shelf in range(program[2])])
            told = renamed(program, tuple(places))
            self.assertIs(look(told), True)
            self.assertEqual(renamed(told, back), program)

    def test_ts_are_in_order_again(self):
        chance = random.Random(105)
        for turn in range(200):
            program = chance_program(chance, many=8)
            places = tuple(chance.sample(range(9), program[2]))
            told = renamed(program, places)
            self.assertIs(look(told), True)
            self.assertEqual(told[:3], (program[0], program[1], max(places) + 1))
            for deed, ahead in zip(told[3], program[3], strict=True):
                self.assertEqual(deed[0], ahead[0])
                self.assertEqual(deed[1], places[ahead[1]])
                self.assertEqual(deed[2], ahead[2])
                if deed[0] == "add":
                    self.assertEqual(deed[3], ahead[3])
                    self.assertEqual(deed[4], tuple(sorted([places[t] for t in ahead[4]])))


class TestAskedAgain(unittest.TestCase):
    def test_the_same_is_told(self):
        chance = random.Random(106)
        programs = [chance_program(chance, 10) for turn in range(20)]
        places = tuple(range(8, -1, -1))

        def told(program):
            return (turned_back(program), behind(program, programs[0]), renamed(program, places[:program[2]]))

        ahead = [told(program) for program in programs]
        later = [told(program) for program in reversed(programs)]
        self.assertEqual(ahead, later[::-1])


if __name__ == "__main__":
    unittest.main()
