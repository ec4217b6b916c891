"""[11], of runs, and of [3] what comes back behind a program turned back."""

import itertools
import random
import unittest

from lentshelf.programs import behind, renamed, turned_back
from lentshelf.running import done, run
from samples import chance_program, chance_rests


def run_whole(program, givens, contents):
    """What lies there if rests are taken at the end of each deed alone, by a list that is changed."""
    n, many, shelves, deeds = program
    lying = list(contents)
    for deed in deeds:
        more = deed[2]
        if deed[0] == "scale":
            lying[deed[1]] = lying[deed[1]] * more % n
            continue
        for factor in [givens[i] for i in deed[3]] + [lying[t] for t in deed[4]]:
            more *= factor
        lying[deed[1]] = (lying[deed[1]] + more) % n
    return tuple(lying)


class TestDone(unittest.TestCase):
    def test_adds(self):
        self.assertEqual(done(10, ("add", 0, 3, (), ()), (), (4, 5)), (7, 5))
        self.assertEqual(done(10, ("add", 0, 3, (), ()), (), (9, 5)), (2, 5))
        self.assertEqual(done(10, ("add", 1, 3, (0,), ()), (4,), (9, 5)), (9, 7))
        self.assertEqual(done(10, ("add", 1, 1, (), (0,)), (), (9, 5)), (9, 4))
        self.assertEqual(done(100, ("add", 2, 2, (1,), (0, 1)), (0, 5), (2, 3, 1)), (2, 3, 61))
        self.assertEqual(done(10, ("add", 0, 0, (0,), (1,)), (3,), (4, 5)), (4, 5))

    def test_factors_that_stand_there_again(self):
        self.assertEqual(done(1000, ("add", 0, 1, (0, 0), ()), (7,), (0, 1)), (49, 1))
        self.assertEqual(done(1000, ("add", 0, 1, (), (1, 1, 1)), (), (0, 5)), (125, 5))
        self.assertEqual(done(1000000, ("add", 1, 3, (0, 0, 1, 1), (0, 0, 2, 2)), (2, 3), (5, 1, 7)),
                         (5, 1 + 3 * 36 * 25 * 49, 7))

    def test_scales(self):
        self.assertEqual(done(10, ("scale", 0, 3), (), (4, 5)), (2, 5))
        self.assertEqual(done(10, ("scale", 1, 9), (), (4, 6)), (4, 4))
        self.assertEqual(done(10, ("scale", 0, 7), (1, 2), (0,)), (0,))
        self.assertEqual(done(10, ("scale", 0, 1), (), (8,)), (8,))

    def test_each_shelf_of_nine(self):
        contents = (0, 1, 2, 3, 4, 5, 6, 7, 8)
        for shelf in range(9):
            told = done(10, ("add", shelf, 1, (), ()), (), contents)
            self.assertEqual(told, contents[:shelf] + (shelf + 1,) + contents[shelf + 1:])

    def test_great_numbers(self):
        last = 999999
        deed = ("add", 0, last, (0, 0, 0, 0), (1, 1, 1, 1))
        self.assertEqual(done(1000000, deed, (last,), (last, last)), (last - 1, last))
        self.assertEqual(done(1000000, ("scale", 0, last), (), (last,)), (1,))

    def test_what_is_told_is_a_tuple_of_whole_numbers(self):
        told = done(2, ("add", 0, 1, (), ()), (), (1, 0))
        self.assertIs(told.__class__, tuple)
        self.assertEqual([number.__class__ for number in told], [int, int])


class TestRun(unittest.TestCase):
    def test_told_ones(self):
        program = (10, 2, 3, (("add", 0, 3, (1, 1), (2,)), ("scale", 2, 7), ("add", 1, 1, (0,), (0, 2))))
        # 1 + 3 * 4 * 4 * 2 = 97, 2 * 7 = 14, 5 + 3 * 7 * 4 = 89
        self.assertEqual(run(program, (3, 4), (1, 5, 2)), (7, 9, 4))

    def test_deeds_go_in_order(self):
        one, other = ("add", 0, 1, (), ()), ("scale", 0, 3)
        self.assertEqual(run((10, 0, 1, (one, other)), (), (1,)), (6,))
        self.assertEqual(run((10, 0, 1, (other, one)), (), (1,)), (4,))

    def test_without_deeds(self):
        self.assertEqual(run((10, 2, 3, ()), (1, 2), (7, 8, 9)), (7, 8, 9))
        self.assertEqual(run((2, 0, 1, ()), (), (0,)), (0,))
        self.assertIs(run((2, 0, 1, ()), (), (0,)).__class__, tuple)

    def test_chance(self):
        chance = random.Random(110)
        for turn in range(400):
            program = chance_program(chance)
            givens = chance_rests(chance, program[0], program[1])
            contents = chance_rests(chance, program[0], program[2])
            told = run(program, givens, contents)
            self.assertEqual(told, run_whole(program, givens, contents))
            self.assertEqual(len(told), program[2])

    def test_deed_by_deed_is_the_run(self):
        chance = random.Random(111)
        for turn in range(100):
            program = chance_program(chance)
            givens = chance_rests(chance, program[0], program[1])
            contents = chance_rests(chance, program[0], program[2])
            lying = contents
            for deed in program[3]:
                lying = done(program[0], deed, givens, lying)
            self.assertEqual(run(program, givens, contents), lying)

    def test_a_long_program(self):
        chance = random.Random(112)
        program = chance_program(chance, 999983, 8, 9, 5000)
        givens, contents = chance_rests(chance, 999983, 8), chance_rests(chance, 999983, 9)
        told = run(program, givens, contents)
        self.assertEqual(told, run_whole(program, givens, contents))
        self.assertEqual(run(turned_back(program), givens, told), contents)

    def test_one_behind_another(self):
        chance = random.Random(113)
        for turn in range(100):
            one = chance_program(chance, 97, 3, 4)
            other = chance_program(chance, 97, 3, 4)
            givens, contents = chance_rests(chance, 97, 3), chance_rests(chance, 97, 4)
            self.assertEqual(run(behind(one, other), givens, contents), run(other, givens, run(one, givens, contents)))

    def test_renamed(self):
        chance = random.Random(114)
        for turn in range(100):
            program = chance_program(chance)
            n, many, shelves, deeds = program
            places = tuple(chance.sample(range(9), shelves))
            givens = chance_rests(chance, n, many)
            contents = chance_rests(chance, n, max(places) + 1)
            told = run(renamed(program, places), givens, contents)
            inner = run(program, givens, tuple([contents[place] for place in places]))
            self.assertEqual(tuple([told[place] for place in places]), inner)
            for shelf in range(len(contents)):
                if shelf not in places:
                    self.assertEqual(told[shelf], contents[shelf])


class TestTurnedBack(unittest.TestCase):
    def test_all_lies_as_it_lay(self):
        chance = random.Random(115)
        for turn in range(400):
            program = chance_program(chance)
            givens = chance_rests(chance, program[0], program[1])
            contents = chance_rests(chance, program[0], program[2])
            back = turned_back(program)
            self.assertEqual(run(back, givens, run(program, givens, contents)), contents)
            self.assertEqual(run(program, givens, run(back, givens, contents)), contents)
            self.assertEqual(run(behind(program, back), givens, contents), contents)

    def test_whatever_lies_there(self):
        deeds = (("add", 0, 2, (0,), (1, 1)), ("scale", 0, 3), ("add", 1, 1, (), (0, 2)), ("add", 2, 3, (0, 0), (0, 1)),
                 ("scale", 2, 3), ("add", 0, 0, (), (1,)))
        program = (4, 1, 3, deeds)
        for givens in itertools.product(range(4), repeat=1):
            seen = {run(program, givens, contents) for contents in itertools.product(range(4), repeat=3)}
            self.assertEqual(len(seen), 64)
            for contents in itertools.product(range(4), repeat=3):
                self.assertEqual(run(turned_back(program), givens, run(program, givens, contents)), contents)


class TestAskedAgain(unittest.TestCase):
    def test_the_same_is_told(self):
        chance = random.Random(116)
        asked = []
        for turn in range(30):
            program = chance_program(chance)
            asked.append((program, chance_rests(chance, program[0], program[1]),
                          chance_rests(chance, program[0], program[2])))
        ahead = [run(*one) for one in asked]
        later = [run(*one) for one in reversed(asked)]
        self.assertEqual(ahead, later[::-1])


if __name__ == "__main__":
    unittest.main()
