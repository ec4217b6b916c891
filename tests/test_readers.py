"""[20], and of [3] readers: worth 1 where the word is taken, else 0."""

import itertools
import random
import unittest

from lentshelf.expressions import worth
from lentshelf.making import how_many, program_of
from lentshelf.readers import reader_expr, takes
from lentshelf.running import run
from samples import chance_rests

X = [("given", i) for i in range(8)]
# Whether the ones are odd in number.
ODD = ((False, 0, 1), (True, 1, 0))
# Whether a 1 stands there, with a row that all words stay in.
ONES = ((False, 0, 1), (True, 1, 1))
# Whether the last two places are 1.
LAST_TWO = ((False, 0, 1), (False, 0, 2), (True, 0, 2))


def num(k):
    return ("num", k)


def no(i):
    return ("less", num(1), X[i])


def all_words(most):
    return [word for many in range(most + 1) for word in itertools.product((0, 1), repeat=many)]


def all_readers(rows):
    each = list(itertools.product((False, True), range(rows), range(rows)))
    return itertools.product(each, repeat=rows)


def chance_reader(chance, rows):
    return tuple([(chance.random() < 0.5, chance.randrange(rows), chance.randrange(rows)) for row in range(rows)])


def taken(reader, word):
    """By the rows that the word's places lead to, from the end on."""
    marks = [row[0] for row in reader]
    for sign in reversed(word):
        marks = [marks[row[2] if sign else row[1]] for row in reader]
    return marks[0]


def left_sum(exprs):
    told = exprs[0]
    for expr in exprs[1:]:
        told = ("sum", told, expr)
    return told


def squares(reader, t, l):
    """All R(i, j, t, l), as a dict without those that are nothing."""
    rows = range(len(reader))
    if l == 1:
        told = {}
        for i, (mark, a, b) in enumerate(reader):
            if a == b:
                told[i, a] = num(1)
            else:
                told[i, a], told[i, b] = no(t), X[t]
        return told
    one, other = squares(reader, t, l // 2), squares(reader, t + l // 2, l - l // 2)
    told = {}
    for i, j in itertools.product(rows, repeat=2):
        ways = [("times", one[i, k], other[k, j]) for k in rows if (i, k) in one and (k, j) in other]
        if ways:
            told[i, j] = left_sum(ways)
    return told


def built(reader, places):
    """The expression as it is told."""
    if places == 0:
        return num(int(reader[0][0]))
    found = squares(reader, 0, places)
    ends = [found[0, j] for j, row in enumerate(reader) if row[0] and (0, j) in found]
    return left_sum(ends) if ends else num(0)


class TestTakes(unittest.TestCase):
    def test_told_ones(self):
        for word in all_words(4):
            self.assertIs(takes(ODD, word), sum(word) % 2 == 1)
            self.assertIs(takes(ONES, word), 1 in word)
            self.assertIs(takes(LAST_TWO, word), word[-2:] == (1, 1))

    def test_one_row(self):
        for word in all_words(4):
            self.assertIs(takes(((True, 0, 0),), word), True)
            self.assertIs(takes(((False, 0, 0),), word), False)

    def test_no_places(self):
        self.assertIs(takes(ODD, ()), False)
        self.assertIs(takes(ODD[::-1], ()), True)

    def test_all_readers_of_two_rows(self):
        for reader in all_readers(2):
            for word in all_words(4):
                self.assertIs(takes(reader, word), taken(reader, word))

    def test_chance(self):
        chance = random.Random(2000)
        for turn in range(200):
            reader = chance_reader(chance, 3)
            for word in all_words(4):
                self.assertIs(takes(reader, word), taken(reader, word))


class TestReaderExpr(unittest.TestCase):
    def test_no_places(self):
        for rows in (1, 2, 3):
            rest = ((True, 0, 0), (False, 0, 0))[:rows - 1]
            self.assertEqual(reader_expr(((True, 0, 0),) + rest, 0), num(1))
            self.assertEqual(reader_expr(((False, 0, 0),) + rest[::-1], 0), num(0))
        for reader in ((True, 0, 0),), ((False, 0, 0),):
            self.assertIs(reader_expr(reader, 0)[1].__class__, int)

    def test_one_place(self):
        self.assertEqual(reader_expr(ODD, 1), X[0])
        self.assertEqual(reader_expr(((True, 0, 1), (False, 1, 0)), 1), no(0))
        self.assertEqual(reader_expr(((False, 1, 1), (True, 0, 0)), 1), num(1))
        self.assertEqual(reader_expr(((True, 1, 1), (False, 0, 0)), 1), num(0))
        # Both rows have the mark, so both ways are added, though the sum is 1.
        self.assertEqual(reader_expr(((True, 0, 1), (True, 1, 0)), 1), ("sum", no(0), X[0]))
        self.assertEqual(reader_expr(((True, 1, 0), (True, 1, 0)), 1), ("sum", X[0], no(0)))
        self.assertEqual(reader_expr(((True, 0, 0),), 1), num(1))

    def test_one_row(self):
        one = ("times", num(1), num(1))
        self.assertEqual(reader_expr(((True, 0, 0),), 2), one)
        # Of three places the lesser half, one place, stands first.
        self.assertEqual(reader_expr(((True, 0, 0),), 3), ("times", num(1), one))
        self.assertEqual(reader_expr(((True, 0, 0),), 4), ("times", one, one))
        for places in range(1, 5):
            self.assertEqual(reader_expr(((False, 0, 0),), places), num(0))

    def test_two_places(self):
        self.assertEqual(reader_expr(ODD, 2), ("sum", ("times", no(0), X[1]), ("times", X[0], no(1))))
        # From row 1 there is no way back to row 0.
        self.assertEqual(reader_expr(ONES, 2), ("sum", ("times", no(0), X[1]), ("times", X[0], num(1))))
        self.assertEqual(reader_expr(((True, 0, 1), (False, 1, 1)), 2), ("times", no(0), no(1)))

    def test_three_places(self):
        # The way of the first place is parted from the two behind it.
        later = [("sum", ("times", no(1), X[2]), ("times", X[1], no(2))),
                 ("sum", ("times", X[1], X[2]), ("times", no(1), no(2)))]
        told = reader_expr(ODD, 3)
        self.assertEqual(told[:2], ("sum", ("times", no(0), later[0])))
        self.assertEqual(told[2], ("times", X[0], ("sum", ("times", X[1], X[2]), ("times", no(1), no(2)))))

    def test_four_places(self):
        def odd(t):
            return ("sum", ("times", no(t), X[t + 1]), ("times", X[t], no(t + 1)))

        even_first = ("sum", ("times", no(0), no(1)), ("times", X[0], X[1]))
        even_second = ("sum", ("times", X[2], X[3]), ("times", no(2), no(3)))
        self.assertEqual(reader_expr(ODD, 4), ("sum", ("times", even_first, odd(2)), ("times", odd(0), even_second)))

    def test_rows_in_order_and_sums_from_the_left(self):
        reader = ((True, 0, 1), (True, 2, 1), (True, 1, 0))
        one = ("times", no(0), no(1))
        first = one
        second = ("sum", ("times", no(0), X[1]), ("times", X[0], X[1]))
        third = ("times", X[0], no(1))
        self.assertEqual(reader_expr(reader, 2), ("sum", ("sum", first, second), third))
        # Row 1 isn't reached by one place: nothing stands for it.
        self.assertEqual(reader_expr(((True, 0, 2), (True, 1, 1), (True, 0, 0)), 1), ("sum", no(0), X[0]))

    def test_all_readers_of_one_and_two_rows(self):
        for rows in (1, 2):
            for reader in all_readers(rows):
                for places in range(5):
                    self.assertEqual(reader_expr(reader, places), built(reader, places))

    def test_readers_of_three_rows(self):
        chance = random.Random(2001)
        for turn in range(300):
            reader = chance_reader(chance, 3)
            for places in range(5):
                self.assertEqual(reader_expr(reader, places), built(reader, places))


class TestWorth(unittest.TestCase):
    """Of [3]: worth 1 where the word is taken, else 0."""

    def same(self, n, reader, places):
        expr = reader_expr(reader, places)
        for word in itertools.product((0, 1), repeat=places):
            self.assertEqual(worth(n, expr, word), 1 if takes(reader, word) else 0)

    def test_all_readers_of_one_and_two_rows(self):
        for rows in (1, 2):
            for at, reader in enumerate(all_readers(rows)):
                for places in range(5):
                    self.same([2, 3, 10, 1000000][at % 4], reader, places)

    def test_readers_of_three_rows(self):
        chance = random.Random(2002)
        for turn in range(150):
            for places in range(5):
                self.same(chance.choice([2, 6, 97, 1000000]), chance_reader(chance, 3), places)

    def test_the_program_brings_it(self):
        chance = random.Random(2003)
        for turn in range(60):
            reader = chance_reader(chance, chance.randint(1, 3))
            places = chance.randint(0, 4)
            expr = reader_expr(reader, places)
            if how_many(expr) > 5000:
                continue
            program = program_of(10, places, expr)
            word = tuple([chance.randrange(2) for place in range(places)])
            lies = chance_rests(chance, 10, 3)
            asked = ((lies[0] + int(takes(reader, word))) % 10,) + lies[1:]
            self.assertEqual(run(program, word, lies), asked)


class TestAskedAgain(unittest.TestCase):
    def test_the_same_is_told(self):
        chance = random.Random(2004)
        readers = [chance_reader(chance, 3) for turn in range(30)]
        word = (1, 0, 1, 1)
        ahead = [(takes(reader, word), reader_expr(reader, 4)) for reader in readers]
        later = [(takes(reader, word), reader_expr(reader, 4)) for reader in reversed(readers)]
        self.assertEqual(ahead, later[::-1])


if __name__ == "__main__":
    unittest.main()
