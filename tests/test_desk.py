"""[33]: the desk, each row and its answer, and the rows that are refused."""

import random
import unittest

from lentshelf.desk import Desk
from lentshelf.errors import LentError, NoRow
from lentshelf.expressions import depth, words, worth
from lentshelf.exprtexts import read_expr, show_expr
from lentshelf.making import bring_alone, bring_by, how_many
from lentshelf.programs import turned_back
from lentshelf.running import run
from samples import chance_expr, chance_rests, left_chain, right_chain, spoilt


def chain(deep, part="x0"):
    """The text of a sum that is so deep, with two words more for each."""
    text = part
    for turn in range(deep):
        text = f"({text} + {part})"
    return text


def full(deep):
    """The text of a sum that is so deep, all parts alike."""
    return "x0" if deep == 0 else f"({full(deep - 1)} + {full(deep - 1)})"


class DeskTest(unittest.TestCase):
    def says(self, desk, *pairs):
        for row, asked in pairs:
            told = desk.say(row)
            self.assertIs(told.__class__, str)
            self.assertEqual(told, asked, row)

    def refused(self, desk, *rows):
        for row in rows:
            with self.assertRaises(NoRow, msg=repr(row)) as caught:
                desk.say(row)
            self.assertIsInstance(caught.exception, LentError)


class TestLet(DeskTest):
    def test_how_many_deeds(self):
        desk = Desk(10, (4, 5), (1, 8, 9))
        self.says(desk, ("let a = 7", "a 1"), ("let b = x1", "b 1"), ("let c = (x0 + 7)", "c 2"), ("let d = (x0 - x1)", "d 2"),
                  ("let e = (x0 * x1)", "e 4"), ("let f = ((x0 + 3) * x1)", "f 6"), ("shelves", "1 8 9"))

    def test_names(self):
        desk = Desk(10, (4,), (0, 0, 0))
        for name in ("a", "z", "abcdefgh", "let", "to", "by", "bring", "back", "put", "give", "shelves", "zzzzzzzz"):
            self.says(desk, (f"let {name} = x0", f"{name} 1"), (f"bring {name} to 0", "s0 4"), ("back", "s0 0"),
                      (f"bring {name} to 1 by 2", "s1 0"), ("back", "s1 0"))
        for name in ("", "abcdefghi", "A", "aB", "a1", "1", "a_b", "a-b", "(a)", "=", "x0", "ab.", "a\n", "\u00e4", "\u00df"):
            self.refused(desk, f"let {name} = x0", f"bring {name} to 0")

    def test_each_sign_as_a_name(self):
        desk = Desk(10, (4,), (0, 0, 0))
        for number in range(32, 127):
            sign = chr(number)
            for name in (sign, f"a{sign}", f"{sign}a"):
                if sign in "abcdefghijklmnopqrstuvwxyz":
                    self.says(desk, (f"let {name} = x0", f"{name} 1"))
                else:
                    self.refused(desk, f"let {name} = x0", f"bring {name} to 0")

    def test_kept_anew(self):
        desk = Desk(10, (4,), (0, 0, 0))
        self.says(desk, ("let a = x0", "a 1"), ("let b = 3", "b 1"), ("let a = 2", "a 1"), ("bring a to 0", "s0 2"),
                  ("bring b to 0", "s0 5"), ("let a = (x0 + 1)", "a 2"), ("bring a to 1", "s1 5"))

    def test_nums_may_be_above_n(self):
        desk = Desk(10, (), (0, 0, 0))
        self.says(desk, ("let a = 999999", "a 1"), ("bring a to 0", "s0 9"), ("let a = 10", "a 1"), ("bring a to 0", "s0 9"))
        self.refused(desk, "let a = 1000000", "let a = 01", "let a = 00", "let a = -1", "let a = +1")

    def test_givens_that_are_there(self):
        for many in range(9):
            desk = Desk(10, (3,) * many, (0, 0, 0))
            for given in range(8):
                if given < many:
                    self.says(desk, (f"let a = x{given}", "a 1"), (f"let a = (1 * x{given})", "a 4"))
                else:
                    self.refused(desk, f"let a = x{given}", f"let a = (1 - x{given})", f"let a = (x{given} + 1)",
                                 f"let a = ((1 + x{given}) * 2)")
        self.refused(Desk(10, (3,) * 8, (0, 0, 0)), "let a = x8", "let a = x00", "let a = x")

    def test_at_most_eight_deep(self):
        desk = Desk(10, (1,), (0, 0, 0))
        self.says(desk, (f"let a = {chain(8)}", "a 9"), (f"let a = {chain(7)}", "a 8"))
        self.refused(desk, f"let a = {chain(9)}", f"let a = {chain(19)}", f"let a = {chain(20)}", f"let a = {chain(21)}",
                     "let a = " + "(" * 5900)
        self.says(desk, ("bring a to 0", "s0 8"))

    def test_at_most_forty_words(self):
        desk = Desk(10, (1,), (0, 0, 0))
        # Words are always odd: 31 of the full one, 39 and 41 with a chain beside it.
        thirty_nine = f"({full(4)} + {chain(3)})"
        forty_one = f"({full(4)} + {chain(4)})"
        self.assertEqual([words(read_expr(text)) for text in (thirty_nine, forty_one)], [39, 41])
        self.assertTrue(depth(read_expr(forty_one)) <= 8)
        self.says(desk, (f"let a = {thirty_nine}", "a 20"))
        self.refused(desk, f"let a = {forty_one}", f"let a = {full(5)}", f"let a = {full(8)}")
        self.says(desk, ("bring a to 0", "s0 0"), ("bring a to 1", "s1 0"))

    def test_expressions_of_all_sorts(self):
        chance = random.Random(3300)
        for turn in range(150):
            expr = chance.choice([chance_expr(chance, 5), left_chain(chance, 10), right_chain(chance, 8), chance_expr(chance, 9)])
            desk = Desk(97, (1,) * 8, (0, 0, 0))
            row = f"let w = {show_expr(expr)}"
            if words(expr) <= 40 and depth(expr) <= 8:
                self.says(desk, (row, f"w {how_many(expr)}"))
            else:
                self.refused(desk, row, "bring w to 0")

    def test_wrong_rows(self):
        desk = Desk(10, (4, 5), (1, 8, 9))
        self.refused(desk, "let", "let ", "let a", "let a ", "let a =", "let a = ", "let a x0", "let a == x0", "let = x0",
                     "let a=x0", "let a =x0", "let a= x0", "let a = x0 ", " let a = x0", "let  a = x0", "let a  = x0", "let a =  x0",
                     "let a = (x0+ 1)", "let a = (x0  + 1)", "let a = x0 + 1", "let a = (x0 + 1", "let a = (x0 / 1)", "Let a = x0",
                     "let a = b", "let a = (a + 1)", "let a = X0", "let a = x0\n", "let a = x0\nshelves", "let a b = x0", "let a : x0",
                     "lets a = x0", "a = x0")
        self.refused(desk, "bring a to 0")


class TestBring(DeskTest):
    def test_alone(self):
        desk = Desk(10, (4, 5), (1, 8, 9))
        self.says(desk, ("let a = ((x0 + 3) * x1)", "a 6"), ("bring a to 0", "s0 6"), ("shelves", "6 8 9"), ("bring a to 1", "s1 3"),
                  ("bring a to 2", "s2 4"), ("shelves", "6 3 4"), ("bring a to 2", "s2 9"))

    def test_by_another(self):
        desk = Desk(10, (4, 5), (2, 8, 9))
        self.says(desk, ("let a = (x0 + 3)", "a 2"), ("bring a to 0 by 1", "s0 8"), ("bring a to 0 by 2", "s0 1"),
                  ("bring a to 1 by 0", "s1 5"), ("bring a to 2 by 0", "s2 6"), ("shelves", "1 5 6"))

    def test_the_rows_are_those_told(self):
        chance = random.Random(3301)
        for turn in range(80):
            n = chance.choice([2, 9, 10, 97, 1000000])
            expr = chance_expr(chance, 3, 3)
            givens, lies = chance_rests(chance, n, 3), chance_rests(chance, n, 3)
            for S in range(3):
                desk = Desk(n, givens, lies)
                B, C = [other for other in range(3) if other != S]
                asked = run((n, 3, 3, bring_alone(n, expr, S, B, C)), givens, lies)
                self.says(desk, (f"let w = {show_expr(expr)}", f"w {how_many(expr)}"), (f"bring w to {S}", f"s{S} {asked[S]}"),
                          ("shelves", " ".join(map(str, asked))))
                self.assertEqual((asked[S] - lies[S]) % n, worth(n, expr, givens))
                for by, spare in ((B, C), (C, B)):
                    desk = Desk(n, givens, lies)
                    asked = run((n, 3, 3, bring_by(n, expr, S, by, spare)), givens, lies)
                    self.says(desk, (f"let w = {show_expr(expr)}", f"w {how_many(expr)}"),
                              (f"bring w to {S} by {by}", f"s{S} {asked[S]}"), ("shelves", " ".join(map(str, asked))))
                    self.assertEqual((asked[S] - lies[S]) % n, worth(n, expr, givens) * lies[by] % n)

    def test_wrong_rows(self):
        desk = Desk(10, (4, 5), (1, 8, 9))
        self.says(desk, ("let a = x0", "a 1"), ("let to = x1", "to 1"))
        self.refused(desk, "bring", "bring ", "bring a", "bring a to", "bring a to ", "bring b to 0", "bring A to 0", "bring a to 3",
                     "bring a to -1", "bring a to 00", "bring a to 01", "bring a to s0", "bring a to 0 ", " bring a to 0",
                     "bring  a to 0", "bring a  to 0", "bring a to  0", "bring a 0", "bring a to 0 1", "bring a to 0 by",
                     "bring a to 0 by ", "bring a to 0 by 0", "bring a to 1 by 1", "bring a to 2 by 2", "bring a to 0 by 3",
                     "bring a to 3 by 0", "bring a to 0 by 01", "bring a to 0 by s1", "bring b to 0 by 1", "bring a to 0 by 1 ",
                     "bring a to 0  by 1", "bring a to 0 by  1", "bring a to 0 by 1 2", "bring a by 1 to 0", "bring a to 0 in 1",
                     "bring a on 0", "bring a on 0 by 1", "Bring a to 0", "bring to 0", "bring a to 10", "bring a to 0\n",
                     "bring a to 0 by 1\n", "bring a to 0 to 1", "bring x0 to 0", "bring a to a")
        for word in ("", "brings", "brin", "let", "put", "give", "back", "shelves", "a", "to", "BRING"):
            self.refused(desk, f"{word} a to 0", f"{word} a to 0 by 1")
        self.says(desk, ("shelves", "1 8 9"))
        self.refused(desk, "back")

    def test_the_least_and_the_greatest_of_it(self):
        # As many deeds as may be: products of eight deep.
        text = "x0"
        for turn in range(8):
            text = f"({text} * x0)"
        desk = Desk(1000000, (999999,), (1, 2, 3))
        self.says(desk, (f"let a = {text}", "a 766"), ("bring a to 2", "s2 2"), ("bring a to 2 by 1", "s2 0"), ("shelves", "1 2 0"))


class TestBack(DeskTest):
    def test_one_behind_another(self):
        desk = Desk(10, (4, 5), (1, 8, 9))
        self.says(desk, ("let a = x0", "a 1"), ("bring a to 0", "s0 5"), ("bring a to 1", "s1 2"), ("bring a to 2 by 0", "s2 9"),
                  ("back", "s2 9"), ("back", "s1 8"), ("back", "s0 1"))
        self.refused(desk, "back", "back")
        self.says(desk, ("shelves", "1 8 9"), ("bring a to 0", "s0 5"), ("back", "s0 1"))
        self.refused(desk, "back")

    def test_the_givens_as_they_were(self):
        desk = Desk(10, (4, 5), (1, 8, 9))
        self.says(desk, ("let a = (x0 * x1)", "a 4"), ("give 0 3", "ok"), ("bring a to 0", "s0 6"), ("give 0 7", "ok"),
                  ("bring a to 1", "s1 3"), ("give 1 0", "ok"), ("back", "s1 8"), ("back", "s0 1"), ("shelves", "1 8 9"),
                  ("bring a to 0", "s0 1"), ("give 1 1", "ok"), ("bring a to 0", "s0 8"))

    def test_the_expression_as_it_was(self):
        desk = Desk(10, (4, 5), (1, 8, 9))
        self.says(desk, ("let a = x0", "a 1"), ("bring a to 0", "s0 5"), ("let a = x1", "a 1"), ("bring a to 0", "s0 0"),
                  ("let a = 7", "a 1"), ("back", "s0 5"), ("back", "s0 1"))

    def test_on_what_lies_there_now(self):
        desk = Desk(10, (4, 5), (1, 8, 9))
        self.says(desk, ("let a = x0", "a 1"), ("bring a to 0", "s0 5"), ("put 0 7", "ok"), ("back", "s0 3"),
                  ("bring a to 1 by 2", "s1 4"), ("put 2 1", "ok"), ("back", "s1 0"), ("shelves", "3 0 1"))

    def test_what_was_taken_back_is_passed_over(self):
        desk = Desk(10, (4, 5), (0, 0, 0))
        self.says(desk, ("let a = 1", "a 1"), ("let b = 2", "b 1"), ("bring a to 0", "s0 1"), ("bring b to 1", "s1 2"),
                  ("back", "s1 0"), ("bring b to 2", "s2 2"), ("back", "s2 0"), ("back", "s0 0"))
        self.refused(desk, "back")

    def test_wrong_rows(self):
        desk = Desk(10, (4, 5), (1, 8, 9))
        self.refused(desk, "back")
        self.says(desk, ("let back = x0", "back 1"))
        self.refused(desk, "back")
        self.says(desk, ("bring back to 0", "s0 5"))
        self.refused(desk, "back ", " back", "Back", "back 0", "back a", "backs", "back\n", "bac")
        self.says(desk, ("back", "s0 1"))


class TestPutGiveShelves(DeskTest):
    def test_put(self):
        desk = Desk(10, (4, 5), (1, 8, 9))
        self.says(desk, ("put 0 0", "ok"), ("shelves", "0 8 9"), ("put 1 9", "ok"), ("put 2 3", "ok"), ("shelves", "0 9 3"))
        self.refused(desk, "put 0 10", "put 3 0", "put 0 00", "put 0 01", "put 00 1", "put 0 -1", "put 0", "put", "put 0 1 2", "put 0  1",
                     "put s0 1", "put  0 1", " put 0 1", "put 0 1 ", "put 0 x", "put a 1", "Put 0 1", "put 0 1\n", "put 0 99999999",
                     "put 0 " + "9" * 5990, "put " + "0" * 5990 + " 1", "put 0 1.", "put 0 +1", "put -1 1", "put 10 1")
        self.says(desk, ("shelves", "0 9 3"))

    def test_give(self):
        desk = Desk(10, (4, 5), (1, 8, 9))
        self.says(desk, ("let a = x0", "a 1"), ("let b = x1", "b 1"), ("give 0 9", "ok"), ("give 1 0", "ok"), ("put 0 0", "ok"),
                  ("bring a to 0", "s0 9"), ("bring b to 1", "s1 8"))
        self.refused(desk, "give 2 1", "give 0 10", "give 0 01", "give 00 1", "give 0", "give", "give 0 1 2", "give 0  1", "give x0 1",
                     "give -1 1", "give 0 -1", "give 0 a", " give 0 1", "give 0 1 ", "give 0 1\n", "Give 0 1", "give 8 1", "give 10 1")
        self.says(desk, ("put 0 0", "ok"), ("bring a to 0", "s0 9"))

    def test_no_givens(self):
        desk = Desk(10, (), (1, 8, 9))
        self.refused(desk, "give 0 1", "give  1", "let a = x0")

    def test_eight_givens(self):
        desk = Desk(10, (0,) * 8, (0, 0, 0))
        self.says(desk, ("give 7 6", "ok"), ("let a = x7", "a 1"), ("bring a to 1", "s1 6"))
        self.refused(desk, "give 8 6")

    def test_great_n_and_small(self):
        desk = Desk(1000000, (0,), (0, 0, 0))
        self.says(desk, ("put 0 999999", "ok"), ("give 0 999999", "ok"), ("shelves", "999999 0 0"), ("let a = x0", "a 1"),
                  ("bring a to 0", "s0 999998"))
        self.refused(desk, "put 0 1000000", "give 0 1000000", "put 0 0999999")
        desk = Desk(2, (0,), (0, 0, 0))
        self.says(desk, ("put 0 1", "ok"), ("give 0 1", "ok"), ("let a = x0", "a 1"), ("bring a to 0", "s0 0"))
        self.refused(desk, "put 0 2", "give 0 2")

    def test_shelves(self):
        desk = Desk(1000, (), (0, 999, 10))
        self.says(desk, ("shelves", "0 999 10"), ("shelves", "0 999 10"))
        self.refused(desk, "shelves ", " shelves", "Shelves", "shelves 0", "shelf", "shelves\n", "shelve")

    def test_rows_that_are_none(self):
        desk = Desk(10, (4, 5), (1, 8, 9))
        for word in ("", "puts", "set", "let", "bring", "back", "shelves", "lay", "gives"):
            self.refused(desk, f"{word} 0 1", f"{word} 1 0")
        self.refused(desk, "", " ", "  ", "\n", "a", "=", "take a", "0", "s0", "s0 5", "ok", "let let let let", "bring bring bring bring",
                     "(" * 6000, " " * 6000, "a" * 6000, "let " * 1500)
        self.says(desk, ("shelves", "1 8 9"))


class TestNothingIsChanged(DeskTest):
    """What is refused changes nothing: no shelf, no given, nothing kept, nothing that may be taken back."""

    def state(self, desk):
        """All that the desk tells by later rows, and then taken back again."""
        told = [desk.say("shelves")]
        for row in ("bring a to 0", "bring b to 1", "bring b to 2 by 1", "back", "back", "back", "shelves"):
            told.append(desk.say(row))
        return told

    def test_spoilt_rows(self):
        rows = ["let a = (x0 + 1)", "let c = x1", "bring a to 0", "bring a to 0 by 1", "put 0 3", "give 1 7", "back", "shelves"]
        for row in rows:
            for text in spoilt(row, " 0a=(s3\n"):
                desk = Desk(10, (4, 5), (1, 8, 9))
                self.says(desk, ("let a = (x0 * x1)", "a 4"), ("let b = (x1 - 2)", "b 2"), ("bring a to 2", "s2 9"))
                ahead = self.state(desk)
                try:
                    desk.say(text)
                except NoRow:
                    self.assertEqual(self.state(desk), ahead, text)
                    self.says(desk, ("back", "s2 9"), ("shelves", "1 8 9"))
                    self.refused(desk, "back")


class TestDesks(DeskTest):
    def test_each_by_itself(self):
        one, other = Desk(10, (4, 5), (1, 8, 9)), Desk(7, (1,), (0, 0, 0))
        self.says(one, ("let a = x1", "a 1"))
        self.refused(other, "bring a to 0")
        self.says(other, ("let a = 3", "a 1"), ("bring a to 0", "s0 3"), ("put 1 6", "ok"), ("give 0 2", "ok"))
        self.refused(one, "back")
        self.says(one, ("shelves", "1 8 9"), ("bring a to 0", "s0 6"))
        self.says(other, ("shelves", "3 6 0"), ("back", "s0 0"))
        self.refused(other, "back")
        self.says(one, ("back", "s0 1"), ("shelves", "1 8 9"))

    def test_made_of_the_same(self):
        givens, contents = (4, 5), (1, 8, 9)
        one, other = Desk(10, givens, contents), Desk(10, givens, contents)
        self.says(one, ("put 0 0", "ok"), ("give 0 0", "ok"), ("let a = x0", "a 1"), ("bring a to 1", "s1 8"))
        self.says(other, ("shelves", "1 8 9"), ("let a = x0", "a 1"), ("bring a to 1", "s1 2"))
        self.assertEqual((givens, contents), ((4, 5), (1, 8, 9)))

    def test_asked_again(self):
        chance = random.Random(3302)
        rows = [f"let {name} = {show_expr(chance_expr(chance, 3, 2))}" for name in ("a", "by", "to")]
        for turn in range(60):
            name, shelf = chance.choice(["a", "by", "to"]), chance.randrange(3)
            rows.append(chance.choice([f"bring {name} to {shelf}", f"bring {name} to {shelf} by {(shelf + 1) % 3}", "shelves",
                                       f"put {shelf} {chance.randrange(10)}", f"give {shelf % 2} {chance.randrange(10)}",
                                       f"let {name} = {show_expr(chance_expr(chance, 2, 2))}", "back"]))

        def answers(desk, between):
            told = []
            for row in rows:
                try:
                    told.append(desk.say(row))
                except NoRow:
                    told.append(None)
                between.say("put 0 1")
                between.say(f"let a = {len(told)}")
                between.say("bring a to 0")
            return told

        ahead = answers(Desk(10, (4, 5), (1, 8, 9)), Desk(7, (), (0, 0, 0)))
        self.assertEqual(answers(Desk(10, (4, 5), (1, 8, 9)), Desk(1000, (), (0, 0, 0))), ahead)


class TestAgainstRuns(DeskTest):
    """A desk and the programs of its expressions tell the same, forth and back."""

    def test_chance(self):
        chance = random.Random(3303)
        for turn in range(60):
            n = chance.choice([2, 9, 10, 97, 1000000])
            givens, lies = list(chance_rests(chance, n, 3)), list(chance_rests(chance, n, 3))
            desk = Desk(n, tuple(givens), tuple(lies))
            kept, gone = {}, []
            for step in range(40):
                deed = chance.choice(["let", "bring", "by", "back", "put", "give"])
                S = chance.randrange(3)
                number = chance.randrange(n)
                name = chance.choice(["a", "let", "to", "by"])
                others = [other for other in range(3) if other != S]
                if deed == "let":
                    kept[name] = chance_expr(chance, 2, 3)
                    self.says(desk, (f"let {name} = {show_expr(kept[name])}", f"{name} {how_many(kept[name])}"))
                elif deed == "put":
                    lies[S] = number
                    self.says(desk, (f"put {S} {number}", "ok"))
                elif deed == "give":
                    givens[S] = number
                    self.says(desk, (f"give {S} {number}", "ok"))
                elif deed == "back" and not gone:
                    self.refused(desk, "back")
                elif deed != "back" and name not in kept:
                    self.refused(desk, f"bring {name} to {S}", f"bring {name} to {S} by {others[0]}")
                else:
                    if deed == "back":
                        S, program, then = gone.pop()
                        program = turned_back(program)
                        row = "back"
                    elif deed == "bring":
                        program, then = (n, 3, 3, bring_alone(n, kept[name], S, *others)), tuple(givens)
                        row = f"bring {name} to {S}"
                    else:
                        chance.shuffle(others)
                        program, then = (n, 3, 3, bring_by(n, kept[name], S, *others)), tuple(givens)
                        row = f"bring {name} to {S} by {others[0]}"
                    if deed != "back":
                        gone.append((S, program, then))
                    lies = list(run(program, then, tuple(lies)))
                    self.says(desk, (row, f"s{S} {lies[S]}"))
                self.says(desk, ("shelves", " ".join(map(str, lies))))


if __name__ == "__main__":
    unittest.main()
