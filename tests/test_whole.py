"""[1], [2], [3]: the promise over the whole program, from a text to what lies there, and back again."""

import itertools
import random
import unittest

from lentshelf.checker import shown
from lentshelf.desk import Desk
from lentshelf.errors import LentError, NoInverse, TooMany
from lentshelf.expressions import depth, worth
from lentshelf.exprtexts import read_expr, show_expr
from lentshelf.likes import alike, gets, gives_back
from lentshelf.making import bring_by, how_many, program_of
from lentshelf.papers import paper_of
from lentshelf.programs import behind, look, renamed, turned_back
from lentshelf.progtexts import read, show
from lentshelf.readers import reader_expr, takes
from lentshelf.rounds import product
from lentshelf.running import run
from lentshelf.sayings import holds, said
from lentshelf.shortening import led, road, short
from lentshelf.symbols import expr_form, forms_behind
from lentshelf.trees import tree_program, tree_worth
from lentshelf.walks import Walk
from lentshelf.weaving import hinders, woven
from samples import chance_expr, chance_rests

TEXTS = ("7", "x0", "(x0 + x1)", "(x2 - 999999)", "(x0 * x1)", "((x0 + 3) * (x1 - x0))", "(((x0 * x1) - x2) * (x2 * x2))",
         "(x0 * (x1 * (x2 * (x0 + 1))))", "((((x0 + 1) * x1) + 2) * x2)")
MODULI = (2, 3, 4, 6, 10, 97, 1000000)


def with_rests(n, expr):
    """The expression with each num as a rest."""
    if expr[0] == "num":
        return ("num", expr[1] % n)
    if expr[0] == "given":
        return expr
    return (expr[0], with_rests(n, expr[1]), with_rests(n, expr[2]))


class TestFromATextToWhatLiesThere(unittest.TestCase):
    def goes(self, chance, n, text):
        expr = read_expr(text)
        program = program_of(n, 3, expr)
        self.assertEqual(program[:3], (n, 3, 3))
        self.assertEqual(len(program[3]), how_many(expr))
        self.assertLessEqual(how_many(expr), 4 ** depth(expr))
        self.assertEqual(shown(program, paper_of(expr), 0, 1, 2, False), with_rests(n, expr))
        places = tuple(chance.sample(range(9), 3))
        moved = read(show(renamed(program, places)))
        self.assertIs(look(moved), True)
        self.assertEqual(shown(moved, paper_of(expr), *places, False), with_rests(n, expr))
        self.brings(chance, n, expr, moved, places[0])
        self.brings(chance, n, expr, short(moved), places[0])
        self.assertEqual(show_expr(expr), text)

    def brings(self, chance, n, expr, program, shelf):
        """It makes the one shelf more by the worth, all others come back; gone back it takes away what it brought."""
        for turn in range(4):
            givens, lies = chance_rests(chance, n, 3), chance_rests(chance, n, program[2])
            asked = list(lies)
            asked[shelf] = (asked[shelf] + worth(n, expr, givens)) % n
            self.assertEqual(run(program, givens, lies), tuple(asked))
            self.assertEqual(run(turned_back(program), givens, tuple(asked)), lies)
            walk = Walk(program, givens, lies)
            walk.go_to(len(program[3]))
            self.assertEqual(walk.lying(), tuple(asked))
            while walk.back():
                pass
            self.assertEqual((walk.gone(), walk.lying()), (0, lies))

    def test_told_texts(self):
        chance = random.Random(4000)
        for n, text in itertools.product(MODULI, TEXTS):
            self.goes(chance, n, text)

    def test_chance(self):
        chance = random.Random(4001)
        for turn in range(60):
            self.goes(chance, chance.choice(MODULI), show_expr(chance_expr(chance, 4, 3)))

    def test_by_another_shelf(self):
        chance = random.Random(4002)
        for n, text in itertools.product(MODULI, TEXTS):
            expr = read_expr(text)
            S, B, C = chance.sample(range(3), 3)
            program = (n, 3, 3, bring_by(n, expr, S, B, C))
            self.assertEqual(shown(program, paper_of(expr), S, B, C, True), with_rests(n, expr))
            givens, lies = chance_rests(chance, n, 3), chance_rests(chance, n, 3)
            asked = list(lies)
            asked[S] = (asked[S] + worth(n, expr, givens) * lies[B]) % n
            self.assertEqual(run(program, givens, lies), tuple(asked))
            self.assertEqual(run(short(program), givens, lies), tuple(asked))

    def test_the_desk_tells_the_same(self):
        chance = random.Random(4003)
        for n, text in itertools.product(MODULI, TEXTS):
            givens, lies = chance_rests(chance, n, 3), chance_rests(chance, n, 3)
            desk = Desk(n, givens, lies)
            self.assertEqual(desk.say(f"let it = {text}"), f"it {how_many(read_expr(text))}")
            told = run(program_of(n, 3, read_expr(text)), givens, lies)
            self.assertEqual(desk.say("bring it to 0"), f"s0 {told[0]}")
            self.assertEqual(desk.say("shelves"), " ".join(map(str, told)))
            self.assertEqual(desk.say("back"), f"s0 {lies[0]}")


class TestFormsOfTheWhole(unittest.TestCase):
    def test_made_programs_by_forms(self):
        for n, text in itertools.product((2, 6, 97), TEXTS):
            expr = read_expr(text)
            program = program_of(n, 3, expr)
            try:
                form = expr_form(n, 3, expr)
                told = gets(program, 0)
            except TooMany:
                continue
            self.assertEqual(told, tuple([(steps + (0, 0, 0), number) for steps, number in form]))
            self.assertIsNone(gives_back(program, 0))
            self.assertIsNone(alike(program, short(program)))
            self.assertIsNone(alike(behind(program, turned_back(program)), (n, 3, 3, ())))

    def test_what_leads_to_one_another_has_the_same_forms(self):
        program = program_of(6, 2, read_expr("((x0 + 3) * (x1 - x0))"))
        moves = road(program)
        forms = forms_behind(program)
        for many in range(len(moves) + 1):
            between = led(program, moves[:many])
            self.assertEqual(forms_behind(between), forms)
            self.assertEqual(short(between), short(program))
        self.assertLessEqual(len(short(program)[3]), len(program[3]))

    def test_two_expressions_woven(self):
        one = renamed(program_of(10, 2, read_expr("(x0 * x1)")), (0, 1, 2))
        other = renamed(program_of(10, 2, read_expr("(x1 + 4)")), (3, 4, 5))
        one, other = one[:2] + (6,) + one[3:], other[:2] + (6,) + other[3:]
        self.assertIsNone(hinders(one, other))
        for turns in ((), (1, 1), (0, 1, 0, 1, 0, 1), (1, 0) * 50):
            self.assertIsNone(alike(woven(one, other, turns), behind(one, other)))
            self.assertEqual(short(woven(one, other, turns)), short(behind(one, other)))


class TestSayingsReadersProductsTrees(unittest.TestCase):
    def test_sayings(self):
        saying = ("or", ("least", 2, (("yes", 0), ("not", ("yes", 1)), ("yes", 2))), ("and", ("yes", 0), ("yes", 1)))
        program = program_of(7, 3, said(7, saying))
        for answers in itertools.product((0, 1), repeat=3):
            more = 1 if holds(saying, answers) else 0
            self.assertEqual(run(program, answers, (6, 3, 4)), ((6 + more) % 7, 3, 4))
            self.assertEqual(run(short(program), answers, (6, 3, 4)), ((6 + more) % 7, 3, 4))
        with self.assertRaises(NoInverse):
            said(6, saying)

    def test_readers(self):
        reader = ((False, 1, 2), (True, 1, 0), (False, 2, 2))
        program = program_of(10, 4, reader_expr(reader, 4))
        for word in itertools.product((0, 1), repeat=4):
            more = 1 if takes(reader, word) else 0
            self.assertEqual(run(program, word, (9, 3, 4)), ((9 + more) % 10, 3, 4))

    def test_products_and_trees(self):
        exprs = (read_expr("(x0 + 1)"), read_expr("x1"))
        self.assertIsNone(alike(product(7, 2, exprs), program_of(7, 2, ("times",) + exprs)))
        tree = ("node", (0, 1, 1, 1), ("leaf", 0), ("node", (0, 0, 0, 1), ("leaf", 1), ("leaf", 2)))
        program = tree_program(13, 2, 3, tree)
        for values in itertools.product((0, 1), repeat=3):
            more = tree_worth(2, tree, values)
            self.assertEqual(run(program, values, (12, 3, 4)), ((12 + more) % 13, 3, 4))
            self.assertEqual(run(short(program), values, (12, 3, 4)), ((12 + more) % 13, 3, 4))


class TestKindsAndAskedAgain(unittest.TestCase):
    def plain(self, told):
        """Whole numbers that are no truths, texts, None and tuples alone."""
        if told.__class__ is tuple:
            for part in told:
                self.plain(part)
        else:
            self.assertIn(told.__class__, (int, str, type(None)))

    def answers(self, text, n):
        expr = read_expr(text)
        program = program_of(n, 3, expr)
        told = [expr, program, show(program), run(program, (1, 0, 1), (0, 1, 1)), shown(program, paper_of(expr), 0, 1, 2, False),
                short(program), road(program), hinders(program, program), woven(program, program, (0, 1)), renamed(program, (4, 0, 2)),
                gives_back(program, 0, 500), gets(program, 0, 500), forms_behind(program, 500), expr_form(n, 3, expr, 500)]
        return tuple(told)

    def test_the_same_is_told(self):
        asked = [(text, n) for n in (2, 6, 10) for text in TEXTS]
        ahead = [self.answers(*one) for one in asked]
        for told in ahead:
            self.plain(told)
        self.assertEqual([self.answers(*one) for one in reversed(asked)], ahead[::-1])

    def test_refusals_change_nothing(self):
        ahead = self.answers(TEXTS[5], 10)
        for asked in (lambda: read_expr("(x0"), lambda: program_of(10, 3, read_expr(TEXTS[7]), 3), lambda: read("rest 1"),
                      lambda: led(program_of(10, 3, read_expr(TEXTS[5])), (("past", -1),)), lambda: Desk(10, (), (0, 0, 0)).say("x")):
            self.assertRaises(LentError, asked)
            self.assertEqual(self.answers(TEXTS[5], 10), ahead)


if __name__ == "__main__":
    unittest.main()
