"""[16], [17], and of [3] papers: what is shown is what the deeds bring."""

import itertools
import random
import unittest

from lentshelf.checker import shown
from lentshelf.errors import LentError, NoPaper
from lentshelf.expressions import worth
from lentshelf.making import bring_alone, bring_by, program_of
from lentshelf.papers import paper_of
from lentshelf.programs import deeds_back, look
from lentshelf.running import run
from samples import WORDS, chance_deed, chance_expr, chance_rests, left_chain, right_chain

MODULI = [2, 3, 4, 10, 12, 97, 999983, 1000000]
ONE = ("one",)
X0, X1, X2 = ("given", 0), ("given", 1), ("given", 2)
ORDERS = list(itertools.permutations((0, 1, 2)))


def add(shelf, number, gs, ts):
    return ("add", shelf, number, gs, ts)


def by_rests(n, expr):
    """The expression with each num as a rest."""
    if expr[0] == "num":
        return ("num", expr[1] % n)
    if expr[0] == "given":
        return expr
    return (expr[0], by_rests(n, expr[1]), by_rests(n, expr[2]))


def flipped(slots):
    """The slots of what is turned back: from the end on, each the other way."""
    return [(leaf, shelf, ts, not back) for leaf, shelf, ts, back in reversed(slots)]


def slots_of(paper, S, B, C, by, leaves):
    """For each deed that the paper asks for: which one of the leaves it is, its shelf, its ts, whether back."""
    if paper[0] == "one":
        leaves.append(len(leaves))
        return [(leaves[-1], S, (B,) if by else (), False)]
    if paper[0] == "times":
        one = slots_of(paper[1], S, C, B, True, leaves)
        other = slots_of(paper[2], C, B, S, by, leaves)
        return other + one + flipped(other) + flipped(one)
    one = slots_of(paper[1], S, B, C, by, leaves)
    other = slots_of(paper[2], S, B, C, by, leaves)
    return one + (flipped(other) if paper[0] == "less" else other)


def leaf_shown(n, deed, shelf, ts, back):
    """What a deed shows at the first slot of a leaf, or None."""
    if deed[:2] != ("add", shelf) or deed[4] != ts:
        return None
    if deed[3] == ():
        return ("num", (n - deed[2] if back else deed[2]) % n)
    if len(deed[3]) == 1 and deed[2] == (n - 1 if back else 1):
        return ("given", deed[3][0])
    return None


def leaf_deed(n, leaf, shelf, ts, back):
    """The one deed that may stand at a later slot of a leaf."""
    number, gs = (leaf[1], ()) if leaf[0] == "num" else (1, (leaf[1],))
    return add(shelf, (n - number if back else number) % n, gs, ts)


def with_leaves(paper, found):
    if paper[0] == "one":
        return found.pop(0)
    one = with_leaves(paper[1], found)
    return (paper[0], one, with_leaves(paper[2], found))


def checked(program, paper, S, B, C, by):
    """The expression shown, or the number of the first deed that isn't as it should be, by slots."""
    n, deeds = program[0], program[3]
    slots = slots_of(paper, S, B, C, by, [])
    found = {}
    for at, (leaf, shelf, ts, back) in enumerate(slots):
        if at == len(deeds):
            return at
        if leaf not in found:
            found[leaf] = leaf_shown(n, deeds[at], shelf, ts, back)
            if found[leaf] is None:
                return at
        elif deeds[at] != leaf_deed(n, found[leaf], shelf, ts, back):
            return at
    if len(deeds) > len(slots):
        return len(slots)
    return with_leaves(paper, [found[leaf] for leaf in sorted(found)])


class CheckerTest(unittest.TestCase):
    def refused(self, at, program, paper, S, B, C, by):
        with self.assertRaises(NoPaper) as caught:
            shown(program, paper, S, B, C, by)
        self.assertIs(caught.exception.at.__class__, int)
        self.assertEqual(caught.exception.at, at, (program, paper, S, B, C, by))
        self.assertIsInstance(caught.exception, LentError)

    def as_checked(self, program, paper, S, B, C, by):
        """Told or refused as by slots; tells whether it was let by."""
        self.assertIs(look(program), True)
        asked = checked(program, paper, S, B, C, by)
        if isinstance(asked, int):
            self.refused(asked, program, paper, S, B, C, by)
            return False
        self.assertEqual(shown(program, paper, S, B, C, by), asked)
        return True


class TestOne(CheckerTest):
    def test_num(self):
        for number in range(10):
            alone = (10, 1, 3, (add(0, number, (), ()),))
            self.assertEqual(shown(alone, ONE, 0, 1, 2, False), ("num", number))
            self.refused(0, alone, ONE, 0, 1, 2, True)
            by = (10, 1, 3, (add(0, number, (), (1,)),))
            self.assertEqual(shown(by, ONE, 0, 1, 2, True), ("num", number))
            self.refused(0, by, ONE, 0, 1, 2, False)

    def test_given(self):
        for given in range(8):
            alone = (10, 8, 3, (add(2, 1, (given,), ()),))
            self.assertEqual(shown(alone, ONE, 2, 1, 0, False), ("given", given))
            self.refused(0, alone, ONE, 2, 1, 0, True)
            by = (10, 8, 3, (add(2, 1, (given,), (1,)),))
            self.assertEqual(shown(by, ONE, 2, 1, 0, True), ("given", given))
            self.refused(0, by, ONE, 2, 1, 0, False)

    def test_a_given_with_another_number_than_1(self):
        for number in (0, 2, 3, 8, 9):
            self.refused(0, (10, 1, 3, (add(0, number, (0,), ()),)), ONE, 0, 1, 2, False)
            self.refused(0, (10, 1, 3, (add(0, number, (0,), (1,)),)), ONE, 0, 1, 2, True)

    def test_back(self):
        paper = ("less", ONE, ONE)
        first = add(0, 1, (0,), ())
        for number in range(10):
            program = (10, 2, 3, (first, add(0, number, (), ())))
            self.assertEqual(shown(program, paper, 0, 1, 2, False), ("less", X0, ("num", -number % 10)))
            program = (10, 2, 3, (first, add(0, number, (1,), ())))
            if number == 9:
                self.assertEqual(shown(program, paper, 0, 1, 2, False), ("less", X0, X1))
            else:
                self.refused(1, program, paper, 0, 1, 2, False)

    def test_back_by_rests_of_2(self):
        program = (2, 2, 3, (add(0, 1, (0,), (1,)), add(0, 1, (1,), (1,))))
        self.assertEqual(shown(program, ("less", ONE, ONE), 0, 1, 2, True), ("less", X0, X1))
        program = (2, 2, 3, (add(0, 1, (), (1,)), add(0, 1, (), (1,))))
        self.assertEqual(shown(program, ("less", ONE, ONE), 0, 1, 2, True), ("less", ("num", 1), ("num", 1)))
        program = (2, 2, 3, (add(0, 1, (), (1,)), add(0, 0, (1,), (1,))))
        self.refused(1, program, ("less", ONE, ONE), 0, 1, 2, True)

    def test_deeds_that_show_nothing(self):
        for deed in (("scale", 0, 1), ("scale", 0, 3), add(1, 1, (), ()), add(2, 1, (0,), ()), add(0, 1, (0, 0), ()),
                     add(0, 1, (0, 1), ()), add(0, 1, (), (1,)), add(0, 1, (), (2,)), add(0, 1, (0,), (1, 2))):
            self.refused(0, (10, 2, 3, (deed,)), ONE, 0, 1, 2, False)
        for deed in (("scale", 0, 1), ("scale", 1, 3), add(1, 1, (), ()), add(2, 1, (0,), (1,)), add(0, 1, (0, 0), (1,)),
                     add(0, 1, (), ()), add(0, 1, (0,), ()), add(0, 1, (), (2,)), add(0, 1, (), (1, 1)),
                     add(0, 1, (), (1, 2))):
            self.refused(0, (10, 2, 3, (deed,)), ONE, 0, 1, 2, True)

    def test_shelves_that_the_program_has_not(self):
        alone = (10, 1, 1, (add(0, 3, (), ()),))
        for B, C in itertools.permutations(range(1, 9), 2):
            self.assertEqual(shown(alone, ONE, 0, B, C, False), ("num", 3))
            self.refused(0, alone, ONE, 0, B, C, True)
            self.refused(0, alone, ONE, B, 0, C, False)
            self.refused(0, alone, ONE, B, C, 0, False)
        by = (10, 1, 2, (add(0, 1, (0,), (1,)),))
        self.assertEqual(shown(by, ONE, 0, 1, 8, True), X0)
        self.refused(0, by, ONE, 0, 8, 1, True)
        self.refused(0, by, ONE, 8, 1, 0, True)
        # By a shelf that isn't there the last one isn't meant.
        self.refused(0, (10, 1, 3, (add(2, 1, (0,), ()),)), ONE, 8, 1, 0, False)


class TestEnds(CheckerTest):
    def test_no_deeds(self):
        for paper in (ONE, ("sum", ONE, ONE), ("less", ONE, ONE), ("times", ONE, ONE)):
            for by in (True, False):
                self.refused(0, (10, 2, 3, ()), paper, 0, 1, 2, by)

    def test_too_few_deeds(self):
        chance = random.Random(1600)
        for turn in range(40):
            expr = chance_expr(chance, 4)
            row = bring_alone(10, expr, 0, 1, 2)
            for many in range(len(row)):
                self.refused(many, (10, 8, 3, row[:many]), paper_of(expr), 0, 1, 2, False)

    def test_deeds_behind_the_end(self):
        chance = random.Random(1601)
        for turn in range(100):
            expr = chance_expr(chance, 4)
            row = bring_by(10, expr, 0, 1, 2)
            more = tuple([chance_deed(chance, 10, 8, 3) for step in range(chance.randint(1, 3))])
            self.refused(len(row), (10, 8, 3, row + more), paper_of(expr), 0, 1, 2, True)
            self.refused(len(row), (10, 8, 3, row + row), paper_of(expr), 0, 1, 2, True)
        self.refused(1, (10, 1, 1, (add(0, 0, (), ()),) * 2), ONE, 0, 1, 2, False)


class TestMadePrograms(CheckerTest):
    def test_each_kind_in_each_order(self):
        for word, inner in itertools.product(WORDS, repeat=2):
            part = (inner, X1, ("num", 25))
            for expr in (part, (word, part, X2), (word, X2, part), (word, part, (inner, part, X0))):
                for S, B, C in ORDERS:
                    alone = (10, 3, 3, bring_alone(10, expr, S, B, C))
                    self.assertEqual(shown(alone, paper_of(expr), S, B, C, False), by_rests(10, expr))
                    by = (10, 3, 3, bring_by(10, expr, S, B, C))
                    self.assertEqual(shown(by, paper_of(expr), S, B, C, True), by_rests(10, expr))

    def test_the_program_of_an_expression(self):
        chance = random.Random(1602)
        for turn in range(200):
            n, expr = chance.choice(MODULI), chance_expr(chance, 5)
            told = shown(program_of(n, 8, expr), paper_of(expr), 0, 1, 2, False)
            self.assertEqual(told, by_rests(n, expr))
            self.assertEqual(paper_of(told), paper_of(expr))

    def test_by_and_alone_are_not_the_same(self):
        chance = random.Random(1603)
        for turn in range(100):
            expr = chance_expr(chance, 4)
            by = (10, 8, 3, bring_by(10, expr, 0, 1, 2))
            alone = (10, 8, 3, bring_alone(10, expr, 0, 1, 2))
            self.assertEqual(shown(by, paper_of(expr), 0, 1, 2, True), by_rests(10, expr))
            self.as_checked(by, paper_of(expr), 0, 1, 2, False)
            self.as_checked(alone, paper_of(expr), 0, 1, 2, True)

    def test_on_other_shelves(self):
        chance = random.Random(1604)
        for turn in range(60):
            expr = ("times", chance_expr(chance, 2), chance_expr(chance, 3))
            S, B, C = chance.sample(range(9), 3)
            program = (97, 8, 9, bring_by(97, expr, S, B, C))
            self.assertEqual(shown(program, paper_of(expr), S, B, C, True), by_rests(97, expr))
            for shelves in itertools.permutations((S, B, C)):
                if shelves != (S, B, C):
                    self.assertFalse(self.as_checked(program, paper_of(expr), *shelves, True))

    def test_turned_back(self):
        # num 0 less E: the row of E turned back, behind one deed.
        chance = random.Random(1605)
        for turn in range(200):
            n, expr = chance.choice(MODULI), chance_expr(chance, 4)
            S, B, C = chance.sample(range(9), 3)
            for by, bring in ((True, bring_by), (False, bring_alone)):
                row = (add(S, 0, (), (B,) if by else ()),) + deeds_back(n, bring(n, expr, S, B, C))
                program = (n, 8, 9, row)
                told = shown(program, ("less", ONE, paper_of(expr)), S, B, C, by)
                self.assertEqual(told, ("less", ("num", 0), by_rests(n, expr)))

    def test_leaning_to_either_side(self):
        chance = random.Random(1606)
        for turn in range(10):
            for chain in (left_chain, right_chain):
                expr = chain(chance, 8)
                told = shown(program_of(97, 8, expr), paper_of(expr), 0, 1, 2, False)
                self.assertEqual(told, by_rests(97, expr))

    def test_told_rows(self):
        row = (add(2, 1, (1,), ()), add(0, 1, (0,), (2,)), add(2, 9, (1,), ()), add(0, 9, (0,), (2,)))
        paper = ("times", ONE, ONE)
        self.assertEqual(shown((10, 2, 3, row), paper, 0, 1, 2, False), ("times", X0, X1))
        back = (add(0, 3, (), ()), add(0, 1, (0,), (2,)), add(2, 1, (1,), ()), add(0, 9, (0,), (2,)), add(2, 9, (1,), ()))
        paper = ("less", ONE, paper)
        self.assertEqual(shown((10, 2, 3, back), paper, 0, 1, 2, False), ("less", ("num", 3), ("times", X0, X1)))
        # The row forth isn't the row back.
        self.refused(1, (10, 2, 3, back[:1] + row), paper, 0, 1, 2, False)

    def test_nums_are_shown_as_they_stand(self):
        row = (add(2, 0, (), (1,)), add(0, 7, (), (2,)), add(2, 0, (), (1,)), add(0, 3, (), (2,)))
        told = shown((10, 0, 3, row), ("times", ONE, ONE), 0, 1, 2, True)
        self.assertEqual(told, ("times", ("num", 7), ("num", 0)))


class TestWrongDeeds(CheckerTest):
    """A made program's deeds, one of them otherwise."""

    def spoilt_deeds(self, n, deed):
        word, shelf, number, gs, ts = deed
        yield add(shelf, (number + 1) % n, gs, ts)
        yield add(shelf, -number % n, gs, ts)
        yield add(shelf, number, (), ts)
        yield add(shelf, number, (0,), ts)
        yield add(shelf, number, (1,), ts)
        yield add(shelf, number, (0, 1), ts)
        yield add(shelf, number, gs, ())
        yield ("scale", shelf, 1)
        yield ("scale", shelf, n - 1)
        for other in range(3):
            if other != shelf:
                yield add(shelf, number, gs, (other,))
                yield add(shelf, number, gs, tuple(sorted(ts + (other,))))
                yield add(other, number, gs, tuple([t for t in ts if t != other]))
                yield add(other, number, gs, tuple([shelf if t == other else t for t in ts]))

    def rows(self):
        for word, inner in itertools.product(WORDS, repeat=2):
            for expr in ((word, (inner, X0, ("num", 3)), X1), (word, X1, (inner, ("num", 4), X0))):
                for by, bring in ((True, bring_by), (False, bring_alone)):
                    yield expr, bring(10, expr, 0, 1, 2), by

    def test_one_deed_otherwise(self):
        for expr, row, by in self.rows():
            for at in range(len(row)):
                for deed in self.spoilt_deeds(10, row[at]):
                    spoilt = row[:at] + (deed,) + row[at + 1:]
                    self.as_checked((10, 2, 3, spoilt), paper_of(expr), 0, 1, 2, by)

    def test_a_deed_left_out_twice_or_exchanged(self):
        for expr, row, by in self.rows():
            for at in range(len(row)):
                for spoilt in (row[:at] + row[at + 1:], row[:at + 1] + row[at:]):
                    self.assertFalse(self.as_checked((10, 2, 3, spoilt), paper_of(expr), 0, 1, 2, by))
                for other in range(at):
                    spoilt = row[:other] + (row[at],) + row[other + 1:at] + (row[other],) + row[at + 1:]
                    self.as_checked((10, 2, 3, spoilt), paper_of(expr), 0, 1, 2, by)

    def test_what_turns_back_within_a_times(self):
        row = bring_alone(10, ("times", ("sum", X0, ("num", 3)), ("less", X1, ("num", 4))), 0, 1, 2)
        paper = ("times", ("sum", ONE, ONE), ("less", ONE, ONE))
        self.assertEqual(len(row), 8)
        self.assertEqual(shown((10, 2, 3, row), paper, 0, 1, 2, False)[0], "times")
        for at in range(4, 8):
            for other in (add(row[at][1], 5, (), row[at][4]), add(row[at][1], 1, (1,), row[at][4])):
                self.refused(at, (10, 2, 3, row[:at] + (other,) + row[at + 1:]), paper, 0, 1, 2, False)
        # In another order, though it does the same.
        for at in (4, 6):
            changed = row[:at] + (row[at + 1], row[at]) + row[at + 2:]
            self.refused(at, (10, 2, 3, changed), paper, 0, 1, 2, False)
        # p turned back ahead of q turned back.
        self.refused(4, (10, 2, 3, row[:4] + row[6:] + row[4:6]), paper, 0, 1, 2, False)

    def test_another_first_num_shows_at_what_turns_it_back(self):
        row = bring_by(10, ("times", ("num", 3), ("num", 4)), 0, 1, 2)
        for at, number in ((0, 5), (1, 5)):
            changed = row[:at] + (add(row[at][1], number, (), row[at][4]),) + row[at + 1:]
            self.refused(at + 2, (10, 0, 3, changed), ("times", ONE, ONE), 0, 1, 2, True)

    def test_chance(self):
        chance = random.Random(1607)
        for turn in range(1500):
            n = chance.choice([2, 3, 4, 10, 97])
            expr = chance_expr(chance, 4, 2)
            by = chance.random() < 0.5
            row = list((bring_by if by else bring_alone)(n, expr, 0, 1, 2))
            at = chance.randrange(len(row))
            what = chance.randrange(4)
            if what == 0:
                row[at] = chance_deed(chance, n, 2, 3)
            elif what == 1:
                row[at] = chance.choice(list(self.spoilt_deeds(n, row[at])))
            elif what == 2:
                del row[at]
            else:
                row.insert(at, chance_deed(chance, n, 2, 3))
            self.as_checked((n, 2, 3, tuple(row)), paper_of(expr), 0, 1, 2, by)

    def test_other_papers(self):
        chance = random.Random(1608)
        papers = [ONE] + [(word, ONE, ONE) for word in WORDS]
        papers += [(word, one, other) for word in WORDS for one in papers[:4] for other in papers[:4]]
        for turn in range(60):
            expr = chance_expr(chance, 3, 2)
            for by, bring in ((True, bring_by), (False, bring_alone)):
                program = (chance.choice([2, 10]), 2, 3, ())
                program = program[:3] + (bring(program[0], expr, 0, 1, 2),)
                for paper in papers:
                    self.as_checked(program, paper, 0, 1, 2, by)


class TestWhatIsShown(CheckerTest):
    """[17]: whatever is let by brings what is shown."""

    def brings(self, program, expr, S, B, by):
        n, givens, shelves = program[:3]
        chance = random.Random(1609)
        for turn in range(4):
            given, lies = chance_rests(chance, n, givens), chance_rests(chance, n, shelves)
            more = worth(n, expr, given) * (lies[B] if by else 1)
            asked = lies[:S] + ((lies[S] + more) % n,) + lies[S + 1:]
            self.assertEqual(run(program, given, lies), asked)

    def test_short_rows_of_all_deeds(self):
        # By rests of 2 and with one given the deeds are few enough to try all rows of up to three.
        deeds = [("scale", shelf, 1) for shelf in range(2)]
        for shelf in range(2):
            for number, gs, ts in itertools.product((0, 1), ((), (0,)), ((), (1 - shelf,))):
                deeds.append(add(shelf, number, gs, ts))
        papers = [ONE, ("sum", ONE, ONE), ("less", ONE, ONE), ("times", ONE, ONE), ("less", ONE, ("sum", ONE, ONE))]
        let_by = 0
        for many in range(4):
            for row in itertools.product(deeds, repeat=many):
                for paper in papers:
                    for by in (True, False):
                        program = (2, 1, 2, row)
                        try:
                            expr = shown(program, paper, 0, 1, 2, by)
                        except NoPaper:
                            continue
                        let_by += 1
                        self.brings(program, expr, 0, 1, by)
        self.assertGreater(let_by, 50)

    def test_chance(self):
        chance = random.Random(1610)
        let_by = 0
        for turn in range(600):
            n, expr = chance.choice([2, 3, 4]), chance_expr(chance, 3, 2)
            by = chance.random() < 0.5
            row = list((bring_by if by else bring_alone)(n, expr, 0, 1, 2))
            for step in range(chance.randint(1, 2)):
                at = chance.randrange(len(row))
                ts = (1,) if by else ()
                row[at] = chance.choice([row[at - 1], add(0, chance.randrange(n), (), ts), add(0, 1, (0,), ts)])
            program = (n, 2, 3, tuple(row))
            try:
                told = shown(program, paper_of(expr), 0, 1, 2, by)
            except NoPaper:
                continue
            let_by += 1
            self.brings(program, told, 0, 1, by)
        self.assertGreater(let_by, 50)


class TestAskedAgain(CheckerTest):
    def test_the_same_is_told(self):
        chance = random.Random(1611)
        asked = []
        for turn in range(30):
            expr = chance_expr(chance, 4)
            asked.append((program_of(97, 8, expr), paper_of(expr)))
        ahead = [shown(program, paper, 0, 1, 2, False) for program, paper in asked]
        for program, paper in asked:
            self.refused(len(program[3]), program[:3] + (program[3] * 2,), paper, 0, 1, 2, False)
        self.assertEqual([shown(program, paper, 0, 1, 2, False) for program, paper in reversed(asked)], ahead[::-1])


if __name__ == "__main__":
    unittest.main()
