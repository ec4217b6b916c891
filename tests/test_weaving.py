"""[32]: programs woven, and what hinders it."""

import itertools
import random
import unittest

from lentshelf.likes import alike
from lentshelf.programs import behind, look
from lentshelf.running import run
from lentshelf.weaving import hinders, woven
from samples import chance_program, chance_rests


def add(shelf, number, gs, ts):
    return ("add", shelf, number, gs, ts)


def scale(shelf, number):
    return ("scale", shelf, number)


def is_past(one, other):
    """Whether the deeds go past one another, as [30] tells it."""
    if one[0] == "add" and other[0] == "add":
        return one[1] not in other[4] and other[1] not in one[4]
    if one[0] == "scale" and other[0] == "scale":
        return True
    more, times = (one, other) if one[0] == "add" else (other, one)
    return times[1] != more[1] and times[1] not in more[4]


def by_turns(one, other, turns):
    """The deeds taken from the fronts of two lists."""
    rows = [list(one), list(other)]
    told = []
    for turn in turns:
        if rows[turn]:
            told.append(rows[turn].pop(0))
    return tuple(told + rows[0] + rows[1])


class TestHinders(unittest.TestCase):
    def told(self, one, other, asked):
        self.assertEqual(hinders((10, 2, 4, one), (10, 2, 4, other)), asked)

    def test_told_ones(self):
        self.told((add(0, 1, (), ()),), (add(1, 1, (), ()),), None)
        self.told((add(0, 1, (), ()),), (add(1, 1, (), (0,)),), (0, 0))
        self.told((add(0, 1, (), (1,)),), (add(1, 1, (), ()),), (0, 0))
        self.told((scale(0, 3), scale(1, 3)), (scale(1, 3), scale(0, 7)), None)
        self.told((scale(0, 3), scale(1, 3)), (scale(1, 3), add(1, 7, (), ())), (1, 1))

    def test_the_first_pair_by_i_then_j(self):
        one = (add(0, 1, (), ()), add(2, 1, (), ()), add(3, 1, (), ()))
        self.told(one, (add(1, 1, (), ()), add(1, 1, (), (3,)), add(1, 1, (), (2,)), add(1, 1, (), (2,))), (1, 2))
        self.told(one, (scale(3, 3), scale(2, 3)), (1, 1))
        self.told(one, (scale(1, 3), scale(3, 3)), (2, 1))
        self.told((scale(3, 3), scale(2, 3)), one, (0, 2))
        self.assertIs(hinders((10, 2, 4, one), (10, 2, 4, (scale(3, 3),))).__class__, tuple)

    def test_no_deeds(self):
        row = (add(0, 1, (), (1,)), scale(0, 3))
        self.told((), (), None)
        self.told(row, (), None)
        self.told((), row, None)

    def test_chance(self):
        chance = random.Random(3200)
        free = 0
        for turn in range(400):
            one = chance_program(chance, 10, 2, 5, chance.randint(0, 4))
            other = chance_program(chance, 10, 2, 5, chance.randint(0, 4))
            pairs = itertools.product(range(len(one[3])), range(len(other[3])))
            hindered = [(i, j) for i, j in pairs if not is_past(one[3][i], other[3][j])]
            free += not hindered
            self.assertEqual(hinders(one, other), hindered[0] if hindered else None)
        self.assertTrue(50 < free < 350)

    def test_two_hundred_deeds_each(self):
        one = (10, 2, 4, tuple([add(at % 2, 1, (), (2,)) for at in range(200)]))
        other = (10, 2, 4, tuple([add(3, 1, (), (2,)) for at in range(200)]))
        self.assertIsNone(hinders(one, other))
        self.assertEqual(hinders(one, other[:3] + (other[3][:199] + (scale(1, 3),),)), (1, 199))


class TestWoven(unittest.TestCase):
    ONE = tuple([add(0, number, (), ()) for number in range(1, 4)])
    OTHER = tuple([add(1, number, (), ()) for number in range(1, 5)])

    def told(self, turns):
        answer = woven((10, 2, 3, self.ONE), (10, 2, 3, self.OTHER), turns)
        self.assertEqual(answer[:3], (10, 2, 3))
        self.assertIs(answer[3].__class__, tuple)
        return answer[3]

    def test_by_turns(self):
        a, b = self.ONE, self.OTHER
        self.assertEqual(self.told((0, 1, 0, 1, 0, 1, 1)), (a[0], b[0], a[1], b[1], a[2], b[2], b[3]))
        self.assertEqual(self.told((1, 1, 0, 0, 1, 1, 0)), (b[0], b[1], a[0], a[1], b[2], b[3], a[2]))

    def test_what_is_left_stands_behind_the_first_ones_ahead(self):
        a, b = self.ONE, self.OTHER
        self.assertEqual(self.told(()), a + b)
        self.assertEqual(self.told((1,)), (b[0],) + a + b[1:])
        self.assertEqual(self.told((1, 0)), (b[0], a[0]) + a[1:] + b[1:])
        self.assertEqual(self.told((0, 0, 0)), a + b)
        self.assertEqual(self.told((1, 1, 1, 1)), b + a)

    def test_turns_of_one_at_its_end_are_passed_over(self):
        a, b = self.ONE, self.OTHER
        self.assertEqual(self.told((0,) * 10), a + b)
        self.assertEqual(self.told((1,) * 10), b + a)
        self.assertEqual(self.told((0,) * 5 + (1,) * 2), a + b)
        self.assertEqual(self.told((0, 0, 0, 0, 1, 0, 1, 0, 1)), a + b)
        self.assertEqual(self.told((1, 1, 1, 1, 1, 0, 1, 0)), b + a)
        self.assertEqual(self.told((1, 0) * 100), (b[0], a[0], b[1], a[1], b[2], a[2], b[3]))

    def test_no_deeds(self):
        row = (scale(0, 3), add(0, 1, (), ()))
        self.assertEqual(woven((10, 0, 1, ()), (10, 0, 1, ()), (0, 1, 1)), (10, 0, 1, ()))
        for turns in ((), (0, 1), (1, 1, 1)):
            self.assertEqual(woven((10, 0, 1, row), (10, 0, 1, ()), turns), (10, 0, 1, row))
            self.assertEqual(woven((10, 0, 1, ()), (10, 0, 1, row), turns), (10, 0, 1, row))

    def test_where_they_hinder_one_another(self):
        one, other = (10, 0, 2, (add(0, 1, (), (1,)), scale(1, 3))), (10, 0, 2, (add(1, 1, (), (0,)),))
        told = woven(one, other, (0, 1))
        self.assertEqual(told, (10, 0, 2, (one[3][0], other[3][0], one[3][1])))
        self.assertIsNotNone(alike(told, behind(one, other)))

    def test_chance(self):
        chance = random.Random(3201)
        for turn in range(200):
            one = chance_program(chance, 10, 2, 5, chance.randint(0, 8))
            other = chance_program(chance, 10, 2, 5, chance.randint(0, 8))
            turns = tuple([chance.randrange(2) for step in range(chance.choice([0, 3, 8, 16, 200]))])
            told = woven(one, other, turns)
            self.assertEqual(told, one[:3] + (by_turns(one[3], other[3], turns),))
            self.assertIs(look(told), True)

    def test_woven_any_way_the_same_lies_there(self):
        chance = random.Random(3202)
        free = 0
        for turn in range(400):
            n = chance.choice([4, 9, 10, 97])
            one, other = chance_program(chance, n, 2, 9, 3), chance_program(chance, n, 2, 9, 3)
            if hinders(one, other) is not None:
                continue
            free += 1
            givens, lies = chance_rests(chance, n, 2), chance_rests(chance, n, 9)
            asked = run(behind(one, other), givens, lies)
            for turns in itertools.product((0, 1), repeat=6):
                self.assertEqual(run(woven(one, other, turns), givens, lies), asked)
        self.assertGreater(free, 20)


class TestAskedAgain(unittest.TestCase):
    def test_the_same_is_told(self):
        chance = random.Random(3203)
        asked = [(chance_program(chance, 10, 2, 5, 5), chance_program(chance, 10, 2, 5, 5)) for turn in range(20)]
        ahead = [(hinders(*pair), woven(*pair, (1, 0, 1))) for pair in asked]
        self.assertEqual([(hinders(*pair), woven(*pair, (1, 0, 1))) for pair in reversed(asked)], ahead[::-1])


if __name__ == "__main__":
    unittest.main()
