"""The texts of expressions, written and read."""

from lentshelf.errors import BadText
from lentshelf.figures import figures_end, number_of

SIGNS = {"sum": " + ", "less": " - ", "times": " * "}
WORDS = {" + ": "sum", " - ": "less", " * ": "times"}
MOST_FIGURES = 6
LAST_GIVEN = 7
MOST_BRACKETS = 20


def show_expr(expr):
    """The one text of an expression."""
    if expr[0] == "num":
        return str(expr[1])
    if expr[0] == "given":
        return f"x{expr[1]}"
    return f"({show_expr(expr[1])}{SIGNS[expr[0]]}{show_expr(expr[2])})"


def read_expr(text):
    """The expression that has this text, or refused with BadText."""
    expr, end = read_part(text, 0, 0)
    if end < len(text):
        raise BadText(0)
    return expr


def read_part(text, at, brackets):
    """The expression that begins at this place, within so many brackets, and the place behind it."""
    sign = text[at:at + 1]
    if sign == "(":
        return read_pair(text, at + 1, brackets + 1)
    if sign == "x":
        return read_given(text, at + 1)
    return read_num(text, at)


def read_pair(text, at, brackets):
    """What stands behind an opening bracket, and the place behind the closing one."""
    # Without this bound a text of opening brackets would lead down call by call.
    if brackets > MOST_BRACKETS:
        raise BadText(0)
    one, at = read_part(text, at, brackets)
    word = WORDS.get(text[at:at + 3])
    if word is None:
        raise BadText(0)
    other, at = read_part(text, at + 3, brackets)
    if text[at:at + 1] != ")":
        raise BadText(0)
    return (word, one, other), at + 1


def read_given(text, at):
    """The given whose number stands at this place, and the place behind it."""
    end = figures_end(text, at)
    number = number_of(text[at:end], 1)
    if number is None or number > LAST_GIVEN:
        raise BadText(0)
    return ("given", number), end


def read_num(text, at):
    """The num that stands at this place, and the place behind it."""
    end = figures_end(text, at)
    number = number_of(text[at:end], MOST_FIGURES)
    if number is None:
        raise BadText(0)
    return ("num", number), end
