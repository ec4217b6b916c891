"""[30]: deeds that go past one another, and kinds of deeds."""

import itertools
import random
import unittest

from lentshelf.moves import go_past, kind
from lentshelf.running import run
from samples import chance_deed, chance_rests


def add(shelf, number, gs, ts):
    return ("add", shelf, number, gs, ts)


def scale(shelf, number):
    return ("scale", shelf, number)


class TestGoPast(unittest.TestCase):
    def told(self, one, other, asked):
        self.assertIs(go_past(one, other), asked)
        self.assertIs(go_past(other, one), asked)

    def test_two_adds(self):
        self.told(add(0, 1, (), ()), add(1, 1, (), ()), True)
        self.told(add(0, 1, (), (2,)), add(1, 1, (), (2,)), True)
        self.told(add(0, 1, (0,), (2, 3)), add(0, 4, (1,), (1, 2)), True)
        self.told(add(0, 1, (), (1,)), add(1, 1, (), ()), False)
        self.told(add(0, 1, (), (1,)), add(1, 1, (), (0,)), False)
        self.told(add(0, 1, (), (2, 2, 3, 8)), add(8, 1, (), (1,)), False)
        self.told(add(0, 1, (), (2, 2, 3, 8)), add(7, 1, (), (1,)), True)
        # Givens' numbers are no shelves'.
        self.told(add(0, 1, (1,), ()), add(1, 1, (0,), ()), True)

    def test_an_add_and_a_scale(self):
        self.told(add(0, 1, (), ()), scale(0, 3), False)
        self.told(add(0, 1, (), (1, 2)), scale(2, 3), False)
        self.told(add(0, 1, (), (1, 2)), scale(0, 3), False)
        self.told(add(0, 1, (3,), (1, 2)), scale(3, 3), True)
        self.told(add(0, 1, (1,), ()), scale(1, 3), True)

    def test_two_scales(self):
        self.told(scale(0, 3), scale(0, 7), True)
        self.told(scale(0, 3), scale(1, 3), True)

    def test_numbers_do_not_matter(self):
        self.told(add(0, 0, (), (1,)), add(1, 0, (), ()), False)
        self.told(add(0, 0, (), ()), scale(0, 1), False)
        self.told(add(0, 5, (), ()), scale(0, 1), False)

    def test_with_itself(self):
        chance = random.Random(3000)
        for turn in range(100):
            deed = chance_deed(chance, 10, 3, 4)
            self.told(deed, deed, True)

    def test_all_of_two_shelves_and_more(self):
        shelves = range(3)
        deeds = [scale(shelf, 3) for shelf in shelves]
        for shelf in shelves:
            others = [other for other in shelves if other != shelf]
            for size in range(3):
                deeds += [add(shelf, 2, (), ts) for ts in itertools.combinations_with_replacement(others, size)]
        for one, other in itertools.product(deeds, repeat=2):
            words = sorted([one[0], other[0]])
            if words == ["add", "add"]:
                asked = one[1] not in other[4] and other[1] not in one[4]
            elif words == ["add", "scale"]:
                more, times = (one, other) if one[0] == "add" else (other, one)
                asked = times[1] not in (more[1],) + more[4]
            else:
                asked = True
            self.told(one, other, asked)

    def test_what_goes_past_may_change_places(self):
        chance = random.Random(3001)
        past = 0
        for turn in range(600):
            n = chance.choice([4, 9, 10, 97])
            one, other = chance_deed(chance, n, 2, 3), chance_deed(chance, n, 2, 3)
            if go_past(one, other):
                past += 1
                givens, lies = chance_rests(chance, n, 2), chance_rests(chance, n, 3)
                self.assertEqual(run((n, 2, 3, (one, other)), givens, lies), run((n, 2, 3, (other, one)), givens, lies))
        self.assertGreater(past, 100)


class TestKind(unittest.TestCase):
    def test_told_ones(self):
        self.assertEqual(kind(add(2, 7, (0, 0), (1, 3))), ("add", 2, (0, 0), (1, 3)))
        self.assertEqual(kind(add(0, 0, (), ())), ("add", 0, (), ()))
        self.assertEqual(kind(scale(4, 7)), ("scale", 4))
        self.assertIs(kind(scale(4, 7)).__class__, tuple)

    def test_the_number_alone_does_not_count(self):
        self.assertEqual(kind(add(2, 7, (0,), (1,))), kind(add(2, 5, (0,), (1,))))
        self.assertEqual(kind(scale(2, 7)), kind(scale(2, 5)))
        kinds = [kind(deed) for deed in (add(2, 7, (0,), (1,)), add(1, 7, (0,), (0,)), add(2, 7, (0, 0), (1,)), add(2, 7, (0,), (1, 1)),
                                         add(2, 7, (1,), (0,)), add(2, 7, (), ()), scale(2, 7), scale(1, 7))]
        self.assertEqual(len(set(kinds)), 8)


if __name__ == "__main__":
    unittest.main()
