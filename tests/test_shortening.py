"""[31], and of [3] short programs: one for all that lead to one another, none has fewer deeds, a road leads to it."""

import itertools
import math
import random
import unittest

from lentshelf.errors import LentError, NoMove
from lentshelf.making import program_of
from lentshelf.programs import behind, look, turned_back
from lentshelf.rounds import product
from lentshelf.running import run
from lentshelf.shortening import led, road, short
from samples import chance_program, chance_rests


def add(shelf, number, gs, ts):
    return ("add", shelf, number, gs, ts)


def scale(shelf, number):
    return ("scale", shelf, number)


def is_past(one, other):
    """Whether the deeds go past one another, as [30] tells it."""
    adds = [deed for deed in (one, other) if deed[0] == "add"]
    scales = [deed for deed in (one, other) if deed[0] == "scale"]
    if len(adds) == 2:
        return one[1] not in other[4] and other[1] not in one[4]
    if len(scales) == 2:
        return True
    return scales[0][1] != adds[0][1] and scales[0][1] not in adds[0][4]


def same_kind(one, other):
    return one[:2] + one[3:] == other[:2] + other[3:]


def joined(n, one, other):
    number = (one[2] * other[2] if one[0] == "scale" else one[2] + other[2]) % n
    return one[:2] + (number,) + one[3:]


def idle(deed):
    return deed[2] == {"scale": 1, "add": 0}[deed[0]]


def after(n, deeds, move):
    """The deeds behind a move, or None where it can't be done."""
    word, i = move
    if word == "out":
        return deeds[:i] + deeds[i + 1:] if i in range(len(deeds)) and idle(deeds[i]) else None
    if i not in range(len(deeds) - 1):
        return None
    one, other = deeds[i], deeds[i + 1]
    if word == "past":
        return deeds[:i] + (other, one) + deeds[i + 2:] if is_past(one, other) else None
    return deeds[:i] + (joined(n, one, other),) + deeds[i + 2:] if same_kind(one, other) else None


def in_order(deeds):
    """What [31] orders rows of deeds by."""
    return [(deed[1], ["add", "scale"].index(deed[0]), deed[3:]) for deed in deeds]


def all_from(n, deeds):
    """All rows of deeds to which moves that make nothing longer lead."""
    found, left = {deeds}, [deeds]
    while left:
        row = left.pop()
        for i, word in itertools.product(range(len(row)), ("past", "one", "out")):
            told = after(n, row, (word, i))
            if told is not None and told not in found:
                found.add(told)
                left.append(told)
    return found


def longer(n, row, kinds):
    """The rows to which one move that makes it longer leads: one becomes two, or what does nothing is put in."""
    for i, deed in enumerate(row):
        for number in range(n):
            for other in range(n):
                one, two = deed[:2] + (number,) + deed[3:], deed[:2] + (other,) + deed[3:]
                units = deed[0] == "add" or math.gcd(number * other, n) == 1
                if units and joined(n, one, two) == deed:
                    yield row[:i] + (one, two) + row[i + 1:]
    for i in range(len(row) + 1):
        for deed in kinds:
            yield row[:i] + (deed[:2] + ({"scale": 1, "add": 0}[deed[0]],) + deed[3:],) + row[i:]


def first_of(rows):
    """The rows with the fewest deeds, and the first of these in the order of [31]."""
    fewest = min([len(row) for row in rows])
    few = [row for row in rows if len(row) == fewest]
    return few, min(few, key=in_order)


def short_by_hand(n, deeds):
    """Deeds of one kind that can meet become one as long as there are such; then the first that can, goes first."""
    row = [deed for deed in deeds if not idle(deed)]
    at = 0
    while at < len(row):
        for other in range(at + 1, len(row)):
            if same_kind(row[at], row[other]):
                one = joined(n, row[at], row.pop(other))
                row[at:at + 1] = [] if idle(one) else [one]
                at = -1
                break
            if not is_past(row[at], row[other]):
                break
        at += 1
    told = []
    while row:
        free = [deed for at, deed in enumerate(row) if all([is_past(deed, other) for other in row[:at]])]
        told.append(min(free, key=lambda deed: in_order([deed])))
        row.remove(told[-1])
    return tuple(told)


def chance_of_few(chance, n, many):
    """A program of so many deeds of few kinds, on three shelves, with one given."""
    kinds = [(shelf, gs, ts) for shelf in range(3) for gs in ((), (0,)) for ts in ((), ((shelf + 1) % 3,))]
    some = chance.sample(kinds, chance.randint(1, 4))
    units = [unit for unit in range(1, n) if math.gcd(unit, n) == 1]
    deeds = []
    for turn in range(many):
        if chance.random() < 0.25:
            deeds.append(scale(chance.randrange(3), chance.choice(units)))
        else:
            shelf, gs, ts = chance.choice(some)
            deeds.append(add(shelf, chance.randrange(n), gs, ts))
    return (n, 1, 3, tuple(deeds))


class ShortTest(unittest.TestCase):
    def is_short(self, program, asked):
        """The program told is the one asked for, and the road leads there by moves that can be done."""
        told = short(program)
        self.assertEqual(told, program[:3] + (asked,))
        self.assertIs(look(told), True)
        self.leads(program, told)
        self.assertEqual(short(told), told)

    def leads(self, program, told):
        deeds = program[3]
        moves = road(program)
        self.assertIs(moves.__class__, tuple)
        for move in moves:
            self.assertIs(move.__class__, tuple)
            self.assertIn(move[0], ("past", "one", "out"))
            self.assertIs(move[1].__class__, int)
            deeds = after(program[0], deeds, move)
            self.assertIsNotNone(deeds)
        self.assertEqual(program[:3] + (deeds,), told)
        self.assertEqual(led(program, moves), told)


class TestShort(ShortTest):
    def test_no_deeds(self):
        self.is_short((10, 0, 1, ()), ())
        self.assertEqual(road((10, 0, 1, ())), ())

    def test_one_deed(self):
        for deed in (add(0, 3, (0,), (1,)), scale(1, 3)):
            self.is_short((10, 1, 2, (deed,)), (deed,))
            self.assertEqual(road((10, 1, 2, (deed,))), ())
        for deed in (add(0, 0, (0,), (1,)), scale(1, 1)):
            self.is_short((10, 1, 2, (deed,)), ())
            self.assertEqual(road((10, 1, 2, (deed,))), (("out", 0),))

    def test_two_of_one_kind(self):
        self.is_short((10, 1, 2, (add(0, 3, (0,), ()), add(0, 9, (0,), ()))), (add(0, 2, (0,), ()),))
        self.is_short((10, 1, 2, (scale(0, 3), scale(0, 9))), (scale(0, 7),))
        self.is_short((10, 1, 2, (add(0, 3, (0,), ()), add(0, 7, (0,), ()))), ())
        self.is_short((10, 1, 2, (scale(0, 3), scale(0, 7))), ())

    def test_numbers_that_come_to_nothing_only_together(self):
        self.is_short((10, 0, 1, (add(0, 3, (), ()), add(0, 3, (), ()), add(0, 4, (), ()))), ())
        self.is_short((10, 0, 1, (scale(0, 3),) * 4), ())
        self.is_short((10, 0, 1, (scale(0, 3),) * 3), (scale(0, 7),))
        self.is_short((7, 0, 1, (scale(0, 2), scale(0, 2), scale(0, 2))), ())
        between = (add(0, 3, (), ()), add(1, 1, (), ()), add(0, 3, (), ()), add(1, 9, (), ()), add(0, 4, (), ()))
        self.is_short((10, 0, 2, between), ())

    def test_what_stands_between(self):
        # Shelf 0 is asked between: they stay two.
        row = (add(0, 1, (), ()), add(1, 1, (), (0,)), add(0, 9, (), ()))
        self.is_short((10, 0, 2, row), row)
        row = (add(0, 1, (), ()), scale(0, 3), add(0, 9, (), ()))
        self.is_short((10, 0, 1, row), row)
        # What stands between falls away by itself.
        row = (add(0, 1, (), ()), add(1, 1, (), (0,)), add(2, 1, (), ()), add(1, 9, (), (0,)), add(0, 9, (), ()))
        self.is_short((10, 0, 3, row), (add(2, 1, (), ()),))
        row = (add(0, 1, (), ()), scale(0, 1), add(0, 9, (), ()))
        self.is_short((10, 0, 1, row), ())

    def test_the_order(self):
        # By shelf, then adds ahead of scales, then gs, then ts.
        ordered = (add(0, 1, (), ()), add(0, 1, (), (3,)), add(0, 1, (), (3, 3)), add(0, 1, (), (4,)), add(0, 1, (0,), ()),
                   add(0, 1, (0, 1), (3,)), add(0, 1, (1,), ()), add(1, 9, (), ()), scale(2, 3), scale(5, 9))
        for turn in range(30):
            mixed = list(ordered)
            random.Random(3100 + turn).shuffle(mixed)
            self.is_short((10, 2, 6, tuple(mixed)), ordered)

    def test_adds_ahead_of_scales_of_a_shelf_where_they_go_past(self):
        # They never do, of one shelf; of an other one the shelf tells.
        self.is_short((10, 0, 2, (scale(1, 3), add(0, 1, (), ()))), (add(0, 1, (), ()), scale(1, 3)))
        self.is_short((10, 0, 2, (add(1, 1, (), ()), scale(0, 3))), (scale(0, 3), add(1, 1, (), ())))
        self.is_short((10, 0, 1, (scale(0, 3), add(0, 1, (), ()))), (scale(0, 3), add(0, 1, (), ())))

    def test_a_later_deed_goes_ahead_of_those_that_may_not_change(self):
        # The add to 0 goes past both others, which stay in their order.
        row = (add(2, 1, (), ()), add(1, 1, (), (2,)), add(0, 1, (), ()))
        self.is_short((10, 0, 3, row), (row[2], row[0], row[1]))
        # It can't pass the second one, so the two stay behind the first one.
        row = (add(2, 1, (), ()), add(1, 1, (), (0,)), add(0, 1, (), ()))
        self.is_short((10, 0, 3, row), (row[1], row[2], row[0]))

    def test_numbers_do_not_order(self):
        row = (add(0, 9, (), ()), add(1, 1, (), ()), add(0, 3, (0,), ()))
        self.is_short((10, 1, 2, row), (row[0], row[2], row[1]))

    def test_against_all_rows_that_moves_lead_to(self):
        chance = random.Random(3101)
        shorter = 0
        for turn in range(400):
            program = chance_of_few(chance, chance.choice([2, 3, 4, 5, 6, 10]), chance.randint(0, 6))
            few, first = first_of(all_from(program[0], program[3]))
            self.is_short(program, first)
            shorter += len(first) < len(program[3])
            for row in few:
                self.assertEqual(short(program[:3] + (row,))[3], first)
        self.assertGreater(shorter, 200)

    def test_against_rows_that_are_longer_between(self):
        chance = random.Random(3102)
        for turn in range(12):
            n = chance.choice([2, 3])
            program = chance_of_few(chance, n, chance.randint(1, 3))
            kinds = program[3] + (add(1, 1, (), ()), scale(0, 1))
            found, left = {program[3]}, [program[3]]
            while left:
                row = left.pop()
                told = [after(n, row, (word, i)) for i in range(len(row)) for word in ("past", "one", "out")]
                if len(row) < len(program[3]) + 1:
                    told += longer(n, row, kinds)
                for new in [new for new in told if new is not None and new not in found]:
                    found.add(new)
                    left.append(new)
            few, first = first_of(found)
            self.is_short(program, first)
            for row in chance.sample(sorted(found), min(40, len(found))):
                self.assertEqual(short(program[:3] + (row,))[3], first)

    def test_all_that_lead_to_one_another(self):
        chance = random.Random(3103)
        for turn in range(40):
            n = chance.choice([3, 4, 7, 10])
            program = chance_of_few(chance, n, 8)
            asked = short(program)
            row = program[3]
            for step in range(60):
                ways = [after(n, row, (word, i)) for i in range(len(row)) for word in ("past", "one", "out")]
                ways = [way for way in ways if way is not None]
                if len(row) < 14:
                    ways += chance.sample(list(longer(n, row, program[3])), 5)
                if ways:
                    row = chance.choice(ways)
                self.assertEqual(short(program[:3] + (row,)), asked)

    def test_it_does_the_same(self):
        chance = random.Random(3104)
        for turn in range(150):
            program = chance_program(chance) if turn % 2 else chance_of_few(chance, chance.choice([4, 9, 10, 97]), 20)
            n = program[0]
            told = short(program)
            for step in range(4):
                givens, lies = chance_rests(chance, n, program[1]), chance_rests(chance, n, program[2])
                self.assertEqual(run(told, givens, lies), run(program, givens, lies))

    def test_turned_back_behind(self):
        chance = random.Random(3105)
        for turn in range(60):
            program = chance_program(chance, many=chance.randint(0, 40))
            self.is_short(behind(program, turned_back(program)), ())
            self.is_short(behind(turned_back(program), program), ())

    def test_two_hundred_deeds(self):
        chance = random.Random(3106)
        for turn in range(3):
            program = chance_of_few(chance, chance.choice([2, 7, 10]), 200)
            self.is_short(program, short_by_hand(program[0], program[3]))
            program = chance_program(chance, 97, 3, 9, 200)
            self.is_short(program, short_by_hand(97, program[3]))

    def test_two_hundred_deeds_that_all_go_past(self):
        row = [add(shelf, 1, gs, ()) for shelf in range(9) for size in range(5)
               for gs in itertools.combinations_with_replacement(range(3), size)][:200]
        self.assertEqual(len(row), 200)
        ordered = tuple(sorted(row, key=lambda deed: in_order([deed])))
        self.is_short((97, 3, 9, tuple(reversed(ordered))), ordered)
        random.Random(3107).shuffle(row)
        self.is_short((97, 3, 9, tuple(row)), ordered)
        hundred = (97, 3, 9, tuple(row[:100]))
        self.is_short(behind(hundred, turned_back(hundred)), ())

    def test_made_programs(self):
        expr = ("times", ("sum", ("given", 0), ("num", 3)), ("less", ("given", 1), ("given", 0)))
        for program in (program_of(10, 2, expr), product(7, 2, (expr, ("given", 1)))):
            self.is_short(program, short_by_hand(program[0], program[3]))
        # By 10 a ten is nothing.
        self.is_short(program_of(10, 2, ("times", ("given", 0), ("num", 10))), ())


class TestLed(ShortTest):
    ROW = (add(0, 1, (), ()), add(0, 2, (), ()), scale(1, 3), scale(1, 7), add(1, 0, (), (0,)), add(2, 5, (), ()))

    def refused(self, at, deeds, *moves):
        with self.assertRaises(NoMove) as caught:
            led((10, 0, 3, deeds), moves)
        self.assertEqual(caught.exception.at, at)
        self.assertIsInstance(caught.exception, LentError)

    def told(self, deeds, *moves):
        answer = led((10, 0, 3, deeds), moves)
        self.assertEqual(answer[:3], (10, 0, 3))
        self.assertIs(answer[3].__class__, tuple)
        return answer[3]

    def test_no_moves(self):
        self.assertEqual(self.told(self.ROW), self.ROW)
        self.assertEqual(self.told(()), ())

    def test_past(self):
        row = self.ROW
        self.assertEqual(self.told(row, ("past", 0)), (row[1], row[0]) + row[2:])
        self.assertEqual(self.told(row, ("past", 1)), (row[0], row[2], row[1]) + row[3:])
        self.assertEqual(self.told(row, ("past", 2)), row[:2] + (row[3], row[2]) + row[4:])
        self.assertEqual(self.told(row, ("past", 4)), row[:4] + (row[5], row[4]))
        self.refused(0, row, ("past", 3))

    def test_one(self):
        row = self.ROW
        self.assertEqual(self.told(row, ("one", 0)), (add(0, 3, (), ()),) + row[2:])
        self.assertEqual(self.told(row, ("one", 2)), row[:2] + (scale(1, 1),) + row[4:])
        for at in (1, 3, 4):
            self.refused(0, row, ("one", at))
        self.refused(0, (add(0, 1, (), ()), add(0, 1, (), (1,))), ("one", 0))
        self.refused(0, (scale(0, 3), scale(1, 3)), ("one", 0))
        self.assertEqual(self.told((add(0, 4, (), ()), add(0, 6, (), ())), ("one", 0)), (add(0, 0, (), ()),))

    def test_out(self):
        row = self.ROW
        self.assertEqual(self.told(row, ("out", 4)), row[:4] + row[5:])
        for at in (0, 1, 2, 3, 5):
            self.refused(0, row, ("out", at))
        self.assertEqual(self.told((scale(0, 1),), ("out", 0)), ())
        self.refused(0, (add(0, 1, (), ()),), ("out", 0))
        self.refused(0, (scale(0, 9),), ("out", 0))

    def test_numbers_below_0_and_beyond(self):
        idle_row = (add(0, 0, (), ()),) * 3
        for word, last in (("past", 1), ("one", 1), ("out", 2)):
            for at in range(last + 1):
                self.told(idle_row, (word, at))
            for at in (-1, -2, -3, -4, last + 1, last + 2, 10 ** 18, -10 ** 18, 10 ** 30):
                self.refused(0, idle_row, (word, at))
            for at in (-1, 0, 1):
                self.refused(0, (), (word, at))
        for word in ("past", "one"):
            self.refused(0, (scale(0, 1),), (word, 0))

    def test_moves_behind_one_another(self):
        row = self.ROW
        told = self.told(row, ("one", 2), ("out", 2), ("one", 0), ("past", 1), ("out", 2))
        self.assertEqual(told, (add(0, 3, (), ()), add(2, 5, (), ())))
        self.refused(3, row, ("one", 2), ("out", 2), ("out", 2), ("out", 2), ("past", 9))
        self.refused(3, row, ("one", 0), ("one", 1), ("out", 1), ("past", 3))
        self.refused(5, row, ("one", 2), ("out", 2), ("one", 0), ("past", 1), ("out", 2), ("one", 0))
        self.refused(1, row, ("past", 0), ("past", -1), ("past", 0))

    def test_chance(self):
        chance = random.Random(3108)
        undone = 0
        for turn in range(400):
            program = chance_of_few(chance, chance.choice([2, 3, 10]), 6)
            moves = tuple([(chance.choice(("past", "past", "one", "out")), chance.randint(-1, 6)) for step in range(3)])
            deeds, at = program[3], 0
            while at < len(moves) and after(program[0], deeds, moves[at]) is not None:
                deeds = after(program[0], deeds, moves[at])
                at += 1
            if at == len(moves):
                self.assertEqual(led(program, moves), program[:3] + (deeds,))
                continue
            undone += 1
            with self.assertRaises(NoMove) as caught:
                led(program, moves)
            self.assertEqual(caught.exception.at, at)
        self.assertTrue(50 < undone < 390, undone)


class TestAskedAgain(unittest.TestCase):
    def test_the_same_is_told(self):
        chance = random.Random(3109)
        asked = [chance_of_few(chance, 10, 12) for turn in range(20)]
        ahead = [(short(program), road(program)) for program in asked]
        self.assertEqual([(short(program), road(program)) for program in reversed(asked)], ahead[::-1])


if __name__ == "__main__":
    unittest.main()
