"""[24], and of [3] trees: brought bit by bit on three rows of shelves, whatever lies there, all else comes back."""

import itertools
import math
import random
import unittest

from lentshelf.errors import LentError, NoRoot, TooMany
from lentshelf.programs import look, turned_back
from lentshelf.running import run
from lentshelf.tables import polynomials
from lentshelf.trees import tree_program, tree_worth
from samples import chance_rests

AND, OR, UNLIKE, FIRST = (0, 0, 0, 1), (0, 1, 1, 1), (0, 1, 1, 0), (0, 0, 1, 1)
# By k some n that have the root.
MODULI = {2: (7, 13, 91, 1999), 3: (11, 31, 341, 1871), 4: (11, 31, 341, 1871)}
# How many tables may stand one above another.
HIGH = {2: 3, 3: 2, 4: 2}


def add(shelf, number, gs, ts):
    return ("add", shelf, number, gs, ts)


def leaf(i):
    return ("leaf", i)


def node(table, left, right):
    return ("node", table, left, right)


def least_root(n, m):
    """The least root of order m, by all rests and plain powers, or None."""
    for w in range(n):
        if pow(w, m, n) == 1 and all([math.gcd(pow(w, i, n) - 1, n) == 1 for i in range(1, m)]):
            return w
    return None


def undone(n, deed):
    if deed[0] == "scale":
        return ("scale", deed[1], pow(deed[2], -1, n))
    return add(deed[1], (n - deed[2]) % n, deed[3], deed[4])


def put_down(n, k, tree, O, L, R):
    """P(tree; O, L, R) as it is told, deed by deed."""
    many = len(O)
    if tree[0] == "leaf":
        return [add(O[bit], 1, (many * tree[1] + bit,), ()) for bit in range(many)]
    m = 2 * many + 1
    w, u = least_root(n, m), pow(m, -1, n)
    told = []
    for turn in range(m):
        first = put_down(n, k, tree[2], L, O, R)
        second = put_down(n, k, tree[3], R, O, L)
        told += first + second
        for bit, terms in enumerate(polynomials(n, k, tree[1])):
            for number, places in terms:
                ts = sorted([L[place] if place < many else R[place - many] for place in places])
                told.append(add(O[bit], u * number % n, (), tuple(ts)))
        told += [undone(n, deed) for deed in second[::-1]]
        told += [undone(n, deed) for deed in first[::-1]]
        told += [("scale", shelf, w) for shelf in L] + [("scale", shelf, w) for shelf in R]
    return told


def chance_table(chance, k):
    return tuple([chance.randrange(k) for entry in range(k * k)])


def chance_tree(chance, k, high, leaves):
    """A tree of at most so many tables one above another."""
    if high == 0 or chance.random() < 0.2:
        return leaf(chance.randrange(leaves))
    one = chance_tree(chance, k, high - 1, leaves)
    return node(chance_table(chance, k), one, chance_tree(chance, k, chance.randrange(high), leaves))


def leaning(chance, k, high, left, leaves):
    """Tables one above another, leaning to the left or to the right."""
    tree = leaf(chance.randrange(leaves))
    for turn in range(high):
        other = leaf(chance.randrange(leaves))
        tree = node(chance_table(chance, k), *((tree, other) if left else (other, tree)))
    return tree


def all_trees():
    """(n, k, tree): leaves alone, tables leaning to either side, as high as they may be, chance ones."""
    chance = random.Random(2400)
    told = []
    for k in (2, 3, 4):
        leaves = 8 if k == 2 else 4
        n = MODULI[k][0]
        told += [(n, k, leaf(i)) for i in range(leaves)]
        for high in range(1, HIGH[k] + 1):
            for turn in range(3):
                for left in (True, False):
                    told.append((chance.choice(MODULI[k]), k, leaning(chance, k, high, left, leaves)))
        for turn in range(12):
            told.append((chance.choice(MODULI[k]), k, chance_tree(chance, k, HIGH[k], leaves)))
    return told


def worth_by_hand(k, tree, values):
    if tree[0] == "leaf":
        return values[tree[1]]
    rows = [tree[1][at:at + k] for at in range(0, k * k, k)]
    return rows[worth_by_hand(k, tree[2], values)][worth_by_hand(k, tree[3], values)]


def bits_of(k, values):
    """The givens that are the values' bits, the lowest first."""
    if k == 2:
        return tuple(values)
    return tuple([bit for value in values for bit in (value % 2, value // 2)])


class TestWorth(unittest.TestCase):
    def test_a_leaf(self):
        self.assertEqual(tree_worth(4, leaf(2), (0, 1, 3)), 3)
        self.assertEqual(tree_worth(2, leaf(0), (0, 1, 1)), 0)

    def test_one_table(self):
        tree = node((0, 0, 1, 0), leaf(1), leaf(0))
        self.assertEqual([tree_worth(2, tree, values) for values in ((0, 0), (0, 1), (1, 0), (1, 1))], [0, 1, 0, 0])
        less = tuple([(a - b) % 3 for a in range(3) for b in range(3)])
        self.assertEqual(tree_worth(3, node(less, leaf(0), leaf(1)), (1, 2)), 2)
        self.assertEqual(tree_worth(3, node(less, leaf(1), leaf(0)), (1, 2)), 1)
        four = tuple(range(4)) * 3 + (3, 0, 2, 1)
        self.assertEqual(tree_worth(4, node(four, leaf(0), leaf(1)), (3, 1)), 0)

    def test_tables_one_above_another(self):
        # 1 less (2 less 0), and (1 less 2) less 0.
        less = tuple([(a - b) % 3 for a in range(3) for b in range(3)])
        right = node(less, leaf(0), node(less, leaf(1), leaf(2)))
        left = node(less, node(less, leaf(0), leaf(1)), leaf(2))
        self.assertEqual(tree_worth(3, right, (1, 2, 1)), 0)
        self.assertEqual(tree_worth(3, left, (1, 2, 1)), 1)

    def test_a_leaf_again_and_again(self):
        tree = node(UNLIKE, node(OR, leaf(0), leaf(0)), node(AND, leaf(0), leaf(0)))
        self.assertEqual([tree_worth(2, tree, (value,)) for value in (0, 1)], [0, 0])

    def test_chance(self):
        chance = random.Random(2401)
        for n, k, tree in all_trees():
            for turn in range(10):
                values = tuple([chance.randrange(k) for i in range(8)])
                told = tree_worth(k, tree, values)
                self.assertEqual(told, worth_by_hand(k, tree, values))
                self.assertIs(told.__class__, int)


class TestProgram(unittest.TestCase):
    def test_a_leaf_alone(self):
        self.assertEqual(tree_program(7, 2, 1, leaf(0)), (7, 1, 3, (add(0, 1, (0,), ()),)))
        self.assertEqual(tree_program(7, 2, 8, leaf(7)), (7, 8, 3, (add(0, 1, (7,), ()),)))
        for k in (3, 4):
            asked = (11, 8, 6, (add(0, 1, (6,), ()), add(1, 1, (7,), ())))
            self.assertEqual(tree_program(11, k, 8, leaf(3)), asked)
            self.assertEqual(tree_program(11, k, 2, leaf(0))[3], (add(0, 1, (0,), ()), add(1, 1, (1,), ())))

    def test_one_table_of_two_values(self):
        # By rests of 7 the least root of order 3 is 2, the third of 1 is 5; the polynomial is a - ab + b.
        one = (add(1, 1, (4,), ()), add(2, 1, (1,), ()),
               add(0, 5, (), (1,)), add(0, 2, (), (1, 2)), add(0, 5, (), (2,)),
               add(2, 6, (1,), ()), add(1, 6, (4,), ()),
               ("scale", 1, 2), ("scale", 2, 2))
        self.assertEqual(tree_program(7, 2, 5, node(OR, leaf(4), leaf(1))), (7, 5, 3, one * 3))

    def test_two_tables_of_two_values(self):
        # The left one goes to shelf 1, with 0 and 2 as its spares, the right one to 2 with 0 and 1.
        inner = (add(0, 1, (0,), ()), add(2, 1, (1,), ()), add(1, 5, (), (0, 2)),
                 add(2, 6, (1,), ()), add(0, 6, (0,), ()), ("scale", 0, 2), ("scale", 2, 2)) * 3
        back = tuple([undone(7, deed) for deed in inner[::-1]])
        top = (add(0, 5, (), (1,)),)
        scales = (("scale", 1, 2), ("scale", 2, 2))
        one = inner + (add(2, 1, (2,), ()),) + top + (add(2, 6, (2,), ()),) + back + scales
        tree = node(FIRST, node(AND, leaf(0), leaf(1)), leaf(2))
        self.assertEqual(tree_program(7, 2, 3, tree), (7, 3, 3, one * 3))
        inner = (add(0, 1, (0,), ()), add(1, 1, (1,), ()), add(2, 5, (), (0, 1)),
                 add(1, 6, (1,), ()), add(0, 6, (0,), ()), ("scale", 0, 2), ("scale", 1, 2)) * 3
        back = tuple([undone(7, deed) for deed in inner[::-1]])
        one = (add(1, 1, (2,), ()),) + inner + top + back + (add(1, 6, (2,), ()),) + scales
        tree = node(FIRST, leaf(2), node(AND, leaf(0), leaf(1)))
        self.assertEqual(tree_program(7, 2, 3, tree), (7, 3, 3, one * 3))

    def test_one_table_of_four_values(self):
        # By rests of 11 the least root of order 5 is 3, the fifth of 1 is 9.
        second = tuple([b for a in range(4) for b in range(4)])
        one = (add(2, 1, (2,), ()), add(3, 1, (3,), ()), add(4, 1, (0,), ()), add(5, 1, (1,), ()),
               add(0, 9, (), (4,)), add(1, 9, (), (5,)),
               add(5, 10, (1,), ()), add(4, 10, (0,), ()), add(3, 10, (3,), ()), add(2, 10, (2,), ()),
               ("scale", 2, 3), ("scale", 3, 3), ("scale", 4, 3), ("scale", 5, 3))
        self.assertEqual(tree_program(11, 4, 4, node(second, leaf(1), leaf(0))), (11, 4, 6, one * 5))

    def test_one_table_of_three_values(self):
        # Entry 2 where both are 2: on bit 1 a1 (1 - a0) b1 (1 - b0), of bit 0 nothing.
        table = (0,) * 8 + (2,)
        told = tree_program(11, 3, 4, node(table, leaf(0), leaf(1)))
        inner = (add(1, 9, (), (2, 3, 4, 5)), add(1, 2, (), (2, 3, 5)), add(1, 2, (), (3, 4, 5)), add(1, 9, (), (3, 5)))
        self.assertEqual(told[:3], (11, 4, 6))
        self.assertEqual(told[3][4:8], inner)
        self.assertEqual(len(told[3]), 5 * 16)

    def test_ts_are_in_order(self):
        # A table that stands as the left one has shelf 0 as its left spare, as the right one 0 and 1.
        for tree in (node(FIRST, node(AND, leaf(0), leaf(1)), leaf(2)), node(FIRST, leaf(2), node(AND, leaf(0), leaf(1)))):
            self.assertIs(look(tree_program(7, 2, 3, tree)), True)
        chance = random.Random(2402)
        for k in (3, 4):
            tree = node(chance_table(chance, k), leaning(chance, k, 1, True, 4), leaning(chance, k, 1, False, 4))
            self.assertIs(look(tree_program(11, k, 8, tree)), True)

    def test_deed_by_deed(self):
        for n, k, tree in all_trees():
            many = 1 if k == 2 else 2
            rows = [tuple(range(at * many, at * many + many)) for at in range(3)]
            told = tree_program(n, k, 8, tree)
            self.assertEqual(told, (n, 8, 3 * many, tuple(put_down(n, k, tree, *rows))))
            self.assertIs(told[3].__class__, tuple)
            self.assertIs(look(told), True)


class TestWhatIsBrought(unittest.TestCase):
    """Of [3]: the bits of the worth come to the first row, all else comes back."""

    def brings(self, chance, n, k, tree, values):
        many = 1 if k == 2 else 2
        program = tree_program(n, k, many * len(values), tree)
        lies = chance_rests(chance, n, 3 * many)
        asked = list(lies)
        for bit in range(many):
            asked[bit] = (asked[bit] + (worth_by_hand(k, tree, values) >> bit) % 2) % n
        told = run(program, bits_of(k, values), lies)
        self.assertEqual(told, tuple(asked))
        self.assertEqual(run(turned_back(program), bits_of(k, values), told), lies)

    def test_all_tables_of_two_values(self):
        chance = random.Random(2403)
        for table in itertools.product((0, 1), repeat=4):
            for values in itertools.product((0, 1), repeat=2):
                self.brings(chance, 7, 2, node(table, leaf(0), leaf(1)), values)

    def test_all_values_of_one_table(self):
        chance = random.Random(2404)
        for k in (3, 4):
            for turn in range(6):
                table = chance_table(chance, k)
                for values in itertools.product(range(k), repeat=2):
                    self.brings(chance, chance.choice((11, 31)), k, node(table, leaf(0), leaf(1)), values)

    def test_chance(self):
        chance = random.Random(2405)
        for n, k, tree in all_trees():
            leaves = 8 if k == 2 else 4
            for turn in range(3):
                self.brings(chance, n, k, tree, tuple([chance.randrange(k) for i in range(leaves)]))

    def test_the_highest_of_two_values(self):
        # Seven tables, three above one another: whether at least one of each two, of both twos, of all.
        chance = random.Random(2406)
        rows = [node(OR, leaf(at), leaf(at + 1)) for at in (0, 2, 4, 6)]
        tree = node(UNLIKE, node(AND, rows[0], rows[1]), node(AND, rows[2], rows[3]))
        for turn in range(12):
            self.brings(chance, 7, 2, tree, tuple([chance.randrange(2) for i in range(8)]))


class TestRefusals(unittest.TestCase):
    def no_root(self, many, *asked):
        with self.assertRaises(NoRoot) as caught:
            tree_program(*asked)
        self.assertEqual(caught.exception.many, many)
        self.assertIsInstance(caught.exception, LentError)

    def too_many(self, most, *asked):
        with self.assertRaises(TooMany) as caught:
            tree_program(*asked)
        self.assertEqual(caught.exception.most, most)
        self.assertIsInstance(caught.exception, LentError)

    def test_no_root(self):
        for n in (2, 3, 5, 6, 9, 10, 11, 14, 21, 2000):
            for tree in (leaf(0), node(AND, leaf(0), leaf(1))):
                self.no_root(3, n, 2, 8, tree)
        for n in (2, 3, 5, 7, 10, 13, 22, 55, 2000):
            for k in (3, 4):
                for tree in (leaf(0), node((0,) * (k * k), leaf(0), leaf(1))):
                    self.no_root(5, n, k, 8, tree)

    def test_each_n(self):
        for n in range(2, 130):
            for k, m in ((2, 3), (3, 5), (4, 5)):
                if least_root(n, m) is None:
                    self.no_root(m, n, k, 8, leaf(1))
                else:
                    self.assertEqual(tree_program(n, k, 8, leaf(1))[0], n)

    def test_no_root_ahead_of_too_many(self):
        self.no_root(3, 10, 2, 8, node(AND, leaf(0), leaf(1)), 1)
        self.no_root(5, 7, 4, 8, leaf(0), 1)
        self.no_root(5, 10, 3, 8, leaf(0), 1)

    def test_too_many(self):
        for n, k, tree in all_trees():
            many = len(tree_program(n, k, 8, tree)[3])
            self.assertEqual(len(tree_program(n, k, 8, tree, many)[3]), many)
            self.assertEqual(tree_program(n, k, 8, tree, many + 1), tree_program(n, k, 8, tree, 5000))
            if many > 1:
                self.too_many(many - 1, n, k, 8, tree, many - 1)

    def test_told_numbers(self):
        self.assertEqual(len(tree_program(7, 2, 2, node(AND, leaf(0), leaf(1)), 21)[3]), 21)
        self.too_many(20, 7, 2, 2, node(AND, leaf(0), leaf(1)), 20)
        self.too_many(1, 11, 3, 2, leaf(0), 1)
        self.assertEqual(len(tree_program(11, 3, 2, leaf(0), 2)[3]), 2)

    def test_most_left_out_is_5000(self):
        tree = leaf(0)
        for turn in range(3):
            tree = node((1, 0, 0, 0), tree, tree)
        self.assertEqual(len(tree_program(7, 2, 1, tree)[3]), 4554)
        higher = node((1, 0, 0, 0), tree, leaf(0))
        self.assertEqual(len(tree_program(7, 2, 1, higher, 28000)[3]), 27348)
        self.too_many(5000, 7, 2, 1, higher)

    def test_counted_ahead(self):
        # Were all the deeds of such a tree made they would have no room.
        tree = leaf(0)
        for turn in range(14):
            tree = node(OR, tree, leaf(1))
        self.too_many(5000, 7, 2, 8, tree)


class TestAskedAgain(unittest.TestCase):
    def test_the_same_is_told(self):
        asked = all_trees()[::3]
        ahead = [(tree_program(n, k, 8, tree), tree_worth(k, tree, (1,) * 8)) for n, k, tree in asked]
        again = [(tree_program(n, k, 8, tree), tree_worth(k, tree, (1,) * 8)) for n, k, tree in reversed(asked)]
        self.assertEqual(again, ahead[::-1])


if __name__ == "__main__":
    unittest.main()
