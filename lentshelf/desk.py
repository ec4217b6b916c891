"""The desk: asked with rows, it brings expressions to three shelves and takes them back."""

from lentshelf.errors import BadText, NoRow
from lentshelf.expressions import depth, is_single, words
from lentshelf.exprtexts import read_expr
from lentshelf.figures import number_of
from lentshelf.making import bring_alone, bring_by, how_many
from lentshelf.programs import deeds_back
from lentshelf.running import run

SMALL_LETTERS = "abcdefghijklmnopqrstuvwxyz"
MOST_LETTERS = 8
MOST_WORDS = 40
MOST_DEPTH = 8
SHELVES = 3


class Desk:
    """Givens, what lies on three shelves, the expressions kept, and the brings that aren't taken back yet."""

    def __init__(self, n, givens, contents):
        self.n = n
        self.givens = givens
        self.contents = contents
        self.kept = {}
        self.brought = []

    def say(self, row):
        """The answer to a row, or refused with NoRow."""
        parts = row.split(" ")
        first, many = parts[0], len(parts)
        if first == "let" and many >= 4 and parts[2] == "=":
            return self.let(parts[1], " ".join(parts[3:]))
        if first == "bring" and many == 4 and parts[2] == "to":
            return self.bring(parts[1], parts[3])
        if first == "bring" and many == 6 and parts[2] == "to" and parts[4] == "by":
            return self.bring_with(parts[1], parts[3], parts[5])
        if first == "put" and many == 3:
            return self.put(parts[1], parts[2])
        if first == "give" and many == 3:
            return self.give(parts[1], parts[2])
        if row == "back":
            return self.take_back()
        if row == "shelves":
            return " ".join([str(number) for number in self.contents])
        raise NoRow()

    def let(self, name, text):
        """Keeps an expression under a name."""
        if not is_name(name):
            raise NoRow()
        expr = expr_of(text, len(self.givens))
        self.kept[name] = expr
        return f"{name} {how_many(expr)}"

    def bring(self, name, shelf):
        """Brings what is kept under the name to the shelf alone."""
        S = number_below(shelf, SHELVES)
        B, C = [other for other in range(SHELVES) if other != S]
        return self.do(S, bring_alone(self.n, self.kept_by(name), S, B, C))

    def bring_with(self, name, shelf, by):
        """Brings what is kept under the name to the shelf by another one."""
        S = number_below(shelf, SHELVES)
        B = number_below(by, SHELVES)
        if S == B:
            raise NoRow()
        return self.do(S, bring_by(self.n, self.kept_by(name), S, B, SHELVES - S - B))

    def kept_by(self, name):
        """The expression that is kept under the name."""
        if name not in self.kept:
            raise NoRow()
        return self.kept[name]

    def do(self, shelf, deeds):
        """Runs the deeds, and keeps what is needed to take them back."""
        self.brought.append((shelf, deeds, self.givens))
        return self.ran(shelf, deeds, self.givens)

    def take_back(self):
        """Takes the last bring back, by the givens and the expression as they were then."""
        if len(self.brought) == 0:
            raise NoRow()
        shelf, deeds, givens = self.brought.pop()
        return self.ran(shelf, deeds_back(self.n, deeds), givens)

    def ran(self, shelf, deeds, givens):
        """Runs the deeds by these givens, and tells what lies on the shelf then."""
        self.contents = run((self.n, len(givens), SHELVES, deeds), givens, self.contents)
        return f"s{shelf} {self.contents[shelf]}"

    def put(self, shelf, number):
        """Others lay a number on a shelf."""
        S = number_below(shelf, SHELVES)
        self.contents = with_number(self.contents, S, number_below(number, self.n))
        return "ok"

    def give(self, given, number):
        """A given becomes another number."""
        i = number_below(given, len(self.givens))
        self.givens = with_number(self.givens, i, number_below(number, self.n))
        return "ok"


def is_name(name):
    """Whether these are one to eight small letters."""
    return 1 <= len(name) <= MOST_LETTERS and all([sign in SMALL_LETTERS for sign in name])


def expr_of(text, givens):
    """The expression of this text, where the desk keeps such, or refused with NoRow."""
    try:
        expr = read_expr(text)
    except BadText:
        raise NoRow() from None
    if words(expr) > MOST_WORDS or depth(expr) > MOST_DEPTH or not has_givens(expr, givens):
        raise NoRow()
    return expr


def has_givens(expr, givens):
    """Whether all givens in the expression are among so many."""
    if is_single(expr):
        return expr[0] == "num" or expr[1] < givens
    return has_givens(expr[1], givens) and has_givens(expr[2], givens)


def number_below(text, bound):
    """The number below the bound that the text writes, or refused with NoRow."""
    number = number_of(text, len(str(bound)))
    if number is None or number >= bound:
        raise NoRow()
    return number


def with_number(numbers, at, number):
    """The numbers with this one at that place."""
    return numbers[:at] + (number,) + numbers[at + 1:]
