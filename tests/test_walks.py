"""[11], of walks: forth and back, sent to a number of deeds, each walk by itself."""

import random
import unittest

from lentshelf.making import program_of
from lentshelf.programs import turned_back
from lentshelf.running import run
from lentshelf.walks import Walk
from samples import chance_expr, chance_program, chance_rests

DEEDS = (("add", 0, 3, (1, 1), (2,)), ("scale", 2, 7), ("add", 1, 1, (0,), (0, 2)), ("scale", 0, 3))
PROGRAM = (10, 2, 3, DEEDS)
GIVENS = (3, 4)
# What lies there behind 0, 1, .. 4 deeds.
STATES = [(1, 5, 2), (7, 5, 2), (7, 5, 4), (7, 9, 4), (1, 9, 4)]


def states_of(program, givens, contents):
    """What lies there behind each number of deeds, each by a run of its own."""
    return [run(program[:3] + (program[3][:many],), givens, contents) for many in range(len(program[3]) + 1)]


def chance_walk(chance, many=None):
    """A walk at its beginning, and what must lie there behind each number of deeds."""
    program = chance_program(chance, many=many)
    givens = chance_rests(chance, program[0], program[1])
    contents = chance_rests(chance, program[0], program[2])
    return Walk(program, givens, contents), states_of(program, givens, contents)


class WalkTest(unittest.TestCase):
    def stands(self, walk, states, many):
        """So many deeds are done, and just that lies there."""
        gone, lying = walk.gone(), walk.lying()
        self.assertIs(gone.__class__, int)
        self.assertIs(lying.__class__, tuple)
        self.assertEqual((gone, lying), (many, states[many]))


class TestForthAndBack(WalkTest):
    def test_told_ones(self):
        walk = Walk(PROGRAM, GIVENS, STATES[0])
        self.stands(walk, STATES, 0)
        for many in range(1, 5):
            self.assertIs(walk.forth(), True)
            self.stands(walk, STATES, many)
        for many in range(3, -1, -1):
            self.assertIs(walk.back(), True)
            self.stands(walk, STATES, many)

    def test_nothing_is_done_at_either_end(self):
        walk = Walk(PROGRAM, GIVENS, STATES[0])
        for turn in range(3):
            self.assertIs(walk.back(), False)
            self.stands(walk, STATES, 0)
        for turn in range(4):
            self.assertIs(walk.forth(), True)
        for turn in range(3):
            self.assertIs(walk.forth(), False)
            self.stands(walk, STATES, 4)
        self.assertIs(walk.back(), True)
        self.stands(walk, STATES, 3)
        self.assertIs(walk.forth(), True)
        self.assertIs(walk.forth(), False)
        self.stands(walk, STATES, 4)

    def test_each_deed_forth_back_and_forth(self):
        walk = Walk(PROGRAM, GIVENS, STATES[0])
        for many in range(4):
            self.assertEqual((walk.forth(), walk.back(), walk.forth()), (True, True, True))
            self.stands(walk, STATES, many + 1)

    def test_without_deeds(self):
        walk = Walk((10, 2, 3, ()), (1, 2), (7, 8, 9))
        self.assertIs(walk.forth(), False)
        self.assertIs(walk.back(), False)
        self.assertIsNone(walk.go_to(0))
        self.assertEqual((walk.gone(), walk.lying()), (0, (7, 8, 9)))

    def test_one_shelf_and_one_deed(self):
        walk = Walk((2, 0, 1, (("add", 0, 1, (), ()),)), (), (1,))
        self.assertEqual((walk.forth(), walk.lying(), walk.forth(), walk.lying()), (True, (0,), False, (0,)))
        self.assertEqual((walk.back(), walk.lying(), walk.back(), walk.lying()), (True, (1,), False, (1,)))

    def test_chance(self):
        chance = random.Random(1100)
        for turn in range(200):
            walk, states = chance_walk(chance)
            many = 0
            for step in range(40):
                if chance.random() < 0.5:
                    self.assertIs(walk.forth(), many < len(states) - 1)
                    many = min(many + 1, len(states) - 1)
                else:
                    self.assertIs(walk.back(), many > 0)
                    many = max(many - 1, 0)
                self.stands(walk, states, many)

    def test_as_many_forth_as_back(self):
        chance = random.Random(1101)
        for turn in range(200):
            walk, states = chance_walk(chance, many=12)
            walk.go_to(chance.randint(0, 12))
            many = walk.gone()
            there = chance.randint(0, 12 - many)
            for step in range(there):
                walk.forth()
            for step in range(there):
                walk.back()
            self.stands(walk, states, many)

    def test_back_takes_away_what_was_brought(self):
        chance = random.Random(1102)
        for turn in range(30):
            program = program_of(97, 8, chance_expr(chance, 3))
            givens, contents = chance_rests(chance, 97, 8), chance_rests(chance, 97, 3)
            walk = Walk(program, givens, contents)
            while walk.forth():
                pass
            self.assertEqual(walk.lying(), run(program, givens, contents))
            back = Walk(turned_back(program), givens, walk.lying())
            while walk.back():
                back.forth()
                self.assertEqual(walk.lying(), back.lying())
            self.assertEqual(walk.lying(), contents)


class TestGoTo(WalkTest):
    def test_each_from_each(self):
        for start in range(5):
            for end in range(5):
                walk = Walk(PROGRAM, GIVENS, STATES[0])
                self.assertIsNone(walk.go_to(start))
                self.stands(walk, STATES, start)
                self.assertIsNone(walk.go_to(end))
                self.stands(walk, STATES, end)
                self.assertIsNone(walk.go_to(end))
                self.stands(walk, STATES, end)

    def test_forth_and_back_behind_it(self):
        for many in range(5):
            walk = Walk(PROGRAM, GIVENS, STATES[0])
            walk.go_to(many)
            self.assertIs(walk.forth(), many < 4)
            self.stands(walk, STATES, min(many + 1, 4))
            walk.go_to(many)
            self.assertIs(walk.back(), many > 0)
            self.stands(walk, STATES, max(many - 1, 0))

    def test_many_times(self):
        chance = random.Random(1103)
        for turn in range(60):
            walk, states = chance_walk(chance)
            last = len(states) - 1
            for step in range(30):
                many = chance.choice([0, last, chance.randint(0, last)])
                self.assertIsNone(walk.go_to(many))
                self.stands(walk, states, many)

    def test_a_long_program(self):
        chance = random.Random(1104)
        program = chance_program(chance, 999983, 8, 9, 5000)
        givens, contents = chance_rests(chance, 999983, 8), chance_rests(chance, 999983, 9)
        walk = Walk(program, givens, contents)
        for many in (5000, 0, 2500, 4999, 1, 5000):
            walk.go_to(many)
            part = program[:3] + (program[3][:many],)
            self.assertEqual((walk.gone(), walk.lying()), (many, run(part, givens, contents)))
        walk.go_to(0)
        self.assertEqual(walk.lying(), contents)


class TestWalksByThemselves(WalkTest):
    def test_two_along_the_same_program(self):
        one = Walk(PROGRAM, GIVENS, STATES[0])
        other = Walk(PROGRAM, GIVENS, STATES[0])
        one.go_to(3)
        self.stands(one, STATES, 3)
        self.stands(other, STATES, 0)
        other.forth()
        self.stands(one, STATES, 3)
        self.stands(other, STATES, 1)
        one.back()
        other.go_to(4)
        self.stands(one, STATES, 2)
        self.stands(other, STATES, 4)

    def test_the_same_program_with_other_givens_and_contents(self):
        walks = []
        for givens, contents in (((0, 0), (0, 0, 0)), ((9, 1), (1, 5, 2)), ((3, 4), (9, 9, 9))):
            walks.append((Walk(PROGRAM, givens, contents), states_of(PROGRAM, givens, contents)))
        for many in (4, 2, 3, 0, 1):
            for at, (walk, states) in enumerate(walks):
                walk.go_to((many + at) % 5)
            for at, (walk, states) in enumerate(walks):
                self.stands(walk, states, (many + at) % 5)

    def test_many_walks_by_turns(self):
        chance = random.Random(1105)
        walks = [chance_walk(chance) for turn in range(12)]
        gone = [0] * 12
        for step in range(400):
            at = chance.randrange(12)
            walk, states = walks[at]
            last = len(states) - 1
            what = chance.randrange(3)
            if what == 0:
                walk.forth()
                gone[at] = min(gone[at] + 1, last)
            elif what == 1:
                walk.back()
                gone[at] = max(gone[at] - 1, 0)
            else:
                gone[at] = chance.randint(0, last)
                walk.go_to(gone[at])
            for (other, lies), many in zip(walks, gone, strict=True):
                self.stands(other, lies, many)

    def test_what_is_asked_changes_nothing(self):
        walk = Walk(PROGRAM, GIVENS, STATES[0])
        walk.go_to(2)
        for turn in range(3):
            self.stands(walk, STATES, 2)
        walk.forth()
        self.stands(walk, STATES, 3)


if __name__ == "__main__":
    unittest.main()
