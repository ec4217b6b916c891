"""[9]: the texts of programs."""

import math
import random
import re
import unittest

from lentshelf.errors import BadText, LentError
from lentshelf.programs import look
from lentshelf.progtexts import read, show
from samples import chance_program, spoilt

SIGNS = "0179sxSX+-* _.r\n"
NUMBER = r"(0|[1-9][0-9]{0,6})"
HEAD = re.compile(f"rest {NUMBER} givens {NUMBER} shelves {NUMBER}")
SCALE = re.compile(rf"s{NUMBER} \* {NUMBER}")
ADD = re.compile(rf"s{NUMBER} \+ {NUMBER}((?: x(?:0|[1-9][0-9]{{0,6}}))*)((?: s(?:0|[1-9][0-9]{{0,6}}))*)")


def are_factors(text, letter, many):
    numbers = [int(word) for word in text.replace(letter, "").split()]
    return len(numbers) <= 4 and numbers == sorted(numbers) and all([number < many for number in numbers])


def is_deed_row(row, n, givens, shelves):
    found = SCALE.fullmatch(row)
    if found:
        return int(found[1]) < shelves and int(found[2]) < n and math.gcd(int(found[2]), n) == 1
    found = ADD.fullmatch(row)
    if not found or int(found[1]) >= shelves or int(found[2]) >= n:
        return False
    if f"s{found[1]}" in found[4].split():
        return False
    return are_factors(found[3], "x", givens) and are_factors(found[4], "s", shelves)


def first_wrong(text):
    """The number of the first row that can't be one, or None, told otherwise than by reading word by word."""
    rows = text.split("\n")
    found = HEAD.fullmatch(rows[0])
    if not found:
        return 0
    n, givens, shelves = [int(number) for number in found.groups()]
    if not (2 <= n <= 1000000 and givens <= 8 and 1 <= shelves <= 9):
        return 0
    for at in range(1, len(rows)):
        if not is_deed_row(rows[at], n, givens, shelves):
            return at
    return None


class TestShow(unittest.TestCase):
    def test_told_ones(self):
        deeds = (("add", 0, 3, (1, 1), (2,)), ("scale", 0, 5), ("add", 1, 0, (), ()), ("add", 2, 6, (), (0, 1, 1)),
                 ("add", 2, 1, (0,), ()))
        self.assertEqual(show((7, 2, 3, deeds)), "rest 7 givens 2 shelves 3\ns0 + 3 x1 x1 s2\ns0 * 5\ns1 + 0\n"
                                                 "s2 + 6 s0 s1 s1\ns2 + 1 x0")

    def test_without_deeds(self):
        self.assertEqual(show((2, 0, 1, ())), "rest 2 givens 0 shelves 1")
        self.assertEqual(show((1000000, 8, 9, ())), "rest 1000000 givens 8 shelves 9")

    def test_unlike_ones_have_unlike_texts(self):
        chance = random.Random(90)
        programs = {chance_program(chance, many=turn % 4) for turn in range(2000)}
        self.assertEqual(len({show(program) for program in programs}), len(programs))


class TestRead(unittest.TestCase):
    def refused(self, text, row):
        with self.assertRaises(BadText) as caught:
            read(text)
        self.assertEqual(caught.exception.row, row, text[:300])
        self.assertIs(caught.exception.row.__class__, int)
        self.assertIsInstance(caught.exception, LentError)

    def check(self, text):
        row = first_wrong(text)
        if row is not None:
            self.refused(text, row)
            return 0
        program = read(text)
        self.assertIs(look(program), True)
        self.assertEqual(show(program), text)
        return 1

    def test_told_ones(self):
        self.assertEqual(read("rest 10 givens 2 shelves 3\ns0 + 3 x1 x1 s2\ns0 * 7"),
                         (10, 2, 3, (("add", 0, 3, (1, 1), (2,)), ("scale", 0, 7))))
        self.assertEqual(read("rest 10 givens 2 shelves 3\ns2 + 0"), (10, 2, 3, (("add", 2, 0, (), ()),)))

    def test_row_0_alone(self):
        self.assertEqual(read("rest 2 givens 0 shelves 1"), (2, 0, 1, ()))
        for n in (2, 3, 10, 999999, 1000000):
            for givens in range(9):
                for shelves in range(1, 10):
                    text = f"rest {n} givens {givens} shelves {shelves}"
                    self.assertEqual(read(text), (n, givens, shelves, ()))

    def test_row_0_out_of_its_bounds(self):
        for n in ("0", "1", "1000001", "9999999", "10000000", "02", "-2", "+2", "1_0", "", "a", "2" * 5000, "0" * 5000):
            self.refused(f"rest {n} givens 0 shelves 1", 0)
            self.refused(f"rest {n} givens 0 shelves 1\ns0 + 1", 0)
        for givens in ("9", "10", "1000000", "12345678", "00", "01", "-1", "+1", "", "x", "1" * 5000):
            self.refused(f"rest 10 givens {givens} shelves 1", 0)
        for shelves in ("0", "10", "11", "1000000", "12345678", "00", "01", "-1", "+1", "", "s", "1" * 5000):
            self.refused(f"rest 10 givens 0 shelves {shelves}", 0)

    def test_row_0_that_is_none(self):
        for row in ("", " ", "rest", "rest 10", "rest 10 givens 2", "rest 10 givens 2 shelves", "10 2 3", "s0 + 1",
                    "givens 2 rest 10 shelves 3", "rest 10 shelves 3 givens 2", "rest 10 rest 10 givens 2 shelves 3",
                    "rest 10 givens 2 shelves 3 ", " rest 10 givens 2 shelves 3", "rest  10 givens 2 shelves 3",
                    "rest 10 givens 2 shelves 3 4", "rest 10 givens 2 shelves 3 deeds 4", "Rest 10 givens 2 shelves 3",
                    "rest 10 given 2 shelves 3", "rest 10 givens 2 shelf 3", "rest 10 givens 2 givens 3",
                    "rest10 givens 2 shelves 3", "rest 10, givens 2, shelves 3", "rest 10 givens two shelves 3"):
            self.refused(row, 0)
            self.refused(row + "\ns0 + 1", 0)
            self.refused(row + "\nnone", 0)

    def test_rows_of_deeds_that_are_none(self):
        for row in ("", " ", "s0", "s0 +", "s0 *", "s0 + ", "s0 * ", "+ 1", "s0 1", "s0 + 1 ", " s0 + 1", "s0  + 1",
                    "s0 +  1", "s0+1", "s0 +1", "s0+ 1", "s0 + 1  x0", "s0 + 1 x0 ", "s0 - 1", "s0 = 1", "s0 / 1",
                    "s0 ** 1", "s0 + + 1", "s0 * * 1", "s0 + * 1", "s0 + 1 1", "s0 * 3 1", "s0 * 3 x0", "s0 * 3 s1",
                    "s0 * 3 ", "s0 + x0", "s0 + s1", "s0 + 1 s1 x0", "s0 + 1 x0 s1 x0", "s0 + x0 1", "S0 + 1", "x0 + 1",
                    "0 + 1", "s + 1", "ss0 + 1", "s0 s0 + 1", "s0 + 1 X0", "s0 + 1 S1", "s0 + 1 x", "s0 + 1 s",
                    "s0 + 1 y0", "s0 + 1 x0x0", "s0 + 1 x0s1", "s0 + 1 xs", "s0 + 1 + 1", "s0 + 1 * 3", "add 0 1",
                    "rest 10 givens 2 shelves 3", "s0 + -1", "s0 + +1", "s0 + 1_0", "s0 + 0_1", "s0 * -3", "s0 * +3",
                    "s-0 + 1", "s+0 + 1", "s0_ + 1", "s0 + 1 x+0", "s0 + 1 x-0", "s0 + 1 x_0", "s0 + 1 s+1",
                    "s00 + 1", "s01 + 1", "s0 + 00", "s0 + 01", "s0 * 03", "s0 + 1 x00", "s0 + 1 x01", "s0 + 1 s01",
                    "s0 + 1.0", "s0 + 1e0", "s0 + one", "s0 + 1 x0.", "s0 + 1,", "s0, + 1", "s0\t+ 1"):
            self.check_row(row)

    def test_rows_of_deeds_that_are_not_let_by(self):
        for row in ("s3 + 1", "s9 + 1", "s10 + 1", "s3 * 3", "s0 + 10", "s0 + 11", "s0 + 1000000", "s0 + 9999999",
                    "s0 * 0", "s0 * 2", "s0 * 5", "s0 * 10", "s0 * 13", "s0 + 1 x2", "s0 + 1 x0 x2", "s0 + 1 x9",
                    "s0 + 1 s3", "s0 + 1 s9", "s0 + 1 s0", "s0 + 1 s0 s1", "s1 + 1 s0 s1", "s0 + 1 x1 x0",
                    "s0 + 1 s2 s1", "s0 + 1 x0 x0 x0 x0 x0", "s0 + 1 s1 s1 s1 s1 s1", "s0 + 1 x0 x0 x0 x0 x1 s1",
                    "s0 + 1 x0 s1 s1 s1 s1 s2"):
            self.check_row(row)

    def test_numbers_of_many_figures(self):
        for figures in ("10000000", "12345678", "1" * 20, "9" * 4300, "9" * 4301, "1" * 5000, "0" * 5000,
                        "0" * 4999 + "1"):
            for row in (f"s{figures} + 1", f"s0 + {figures}", f"s0 * {figures}", f"s{figures} * 3",
                        f"s0 + 1 x{figures}", f"s0 + 1 s{figures}", f"s0 + 1 x0 x{figures} s1", f"s0 {figures} 1"):
                self.check_row(row)

    def check_row(self, row):
        head = "rest 10 givens 2 shelves 3"
        self.refused(f"{head}\n{row}", 1)
        self.refused(f"{head}\n{row}\ns0 + 1", 1)
        self.refused(f"{head}\ns0 + 1\n{row}", 2)
        self.refused(f"{head}\ns0 + 1\ns0 * 3\n{row}\ns1 + 1\n{row}", 3)
        self.refused(f"none\n{row}", 0)

    def test_line_feeds(self):
        head = "rest 10 givens 2 shelves 3"
        self.refused("", 0)
        self.refused("\n", 0)
        self.refused("\n" + head, 0)
        self.refused(head + "\n", 1)
        self.refused(head + "\n\n", 1)
        self.refused(head + "\ns0 + 1\n", 2)
        self.refused(head + "\n\ns0 + 1", 1)
        self.refused(head + "\ns0 + 1\n\ns0 + 1", 2)
        self.refused(head + "\ns0 + 1 \ns0 + 1", 1)
        self.refused(head + " s0 + 1", 0)
        self.refused(head + "\ns0 + 1 s1 + 1", 1)
        self.refused("\n" * 6000, 0)
        self.refused(head + "\n" * 5900, 1)

    def test_all_that_is_let_by(self):
        head = "rest 10 givens 2 shelves 3"
        for row in ("s0 + 0", "s2 + 9", "s0 * 1", "s2 * 9", "s0 + 1 x0 x0 x1 x1 s1 s1 s2 s2", "s1 + 5 s0 s2", "s0 + 3 x1"):
            self.assertEqual(self.check(f"{head}\n{row}"), 1, row)

    def test_read_again(self):
        chance = random.Random(91)
        for turn in range(400):
            program = chance_program(chance)
            self.assertEqual(read(show(program)), program)

    def test_a_long_program_is_read_again(self):
        chance = random.Random(92)
        program = chance_program(chance, 1000000, 8, 9, 5000)
        self.assertEqual(read(show(program)), program)
        self.refused(show(program) + "\ns9 + 1", 5001)

    def test_each_place_spoilt(self):
        text = "rest 10 givens 2 shelves 3\ns0 + 3 x1 x1 s2\ns0 * 7\ns1 + 0\ns2 + 9 s0 s1"
        let_by = sum([self.check(other) for other in spoilt(text, SIGNS)])
        self.assertGreater(let_by, 30)

    def test_chance_texts_spoilt(self):
        chance = random.Random(93)
        for turn in range(25):
            program = chance_program(chance, many=chance.randint(0, 4))
            for other in spoilt(show(program), "01 xs\n"):
                self.check(other)

    def test_rows_exchanged_left_out_and_twice(self):
        chance = random.Random(94)
        for turn in range(200):
            rows = show(chance_program(chance, many=4)).split("\n")
            words = [row.split(" ") for row in rows]
            at = chance.randrange(5)
            place = chance.randrange(len(words[at]))
            for spoiling in ([], [words[at][place]] * 2, [chance.choice(chance.choice(words))]):
                fresh = words[at][:place] + spoiling + words[at][place + 1:]
                self.check("\n".join(rows[:at] + [" ".join(fresh)] + rows[at + 1:]))
            self.check("\n".join(rows[:at] + rows[at + 1:]))
            self.check("\n".join(rows[:at] + [rows[at]] + rows[at:]))

    def test_asked_again(self):
        text = "rest 10 givens 2 shelves 3\ns0 + 3 x1 x1 s2"
        ahead = read(text)
        self.refused("rest 2 givens 2 shelves 3\ns0 + 3 x1 x1 s2", 1)
        self.refused("rest 10 givens 1 shelves 3\ns0 + 3 x1 x1 s2", 1)
        self.refused("rest 10 givens 2 shelves 2\ns0 + 3 x1 x1 s2", 1)
        self.assertEqual(read(text), ahead)
        self.assertEqual(show(ahead), text)


if __name__ == "__main__":
    unittest.main()
