"""Programs made of expressions: the rows of deeds that bring their worth to a shelf."""

from lentshelf.errors import TooMany
from lentshelf.expressions import is_single
from lentshelf.programs import deeds_back


def bring_by(n, expr, S, B, C):
    """The deeds that make shelf S more by the worth times what lies on B, with spare C."""
    if is_single(expr):
        return (single_deed(n, expr, S, (B,)),)
    if expr[0] == "times":
        return there_and_back(n, bring_by(n, expr[2], C, B, S), bring_by(n, expr[1], S, C, B))
    return both(n, expr[0], bring_by(n, expr[1], S, B, C), bring_by(n, expr[2], S, B, C))


def bring_alone(n, expr, S, B, C):
    """The deeds that make shelf S more by the worth, with spares B and C."""
    if is_single(expr):
        return (single_deed(n, expr, S, ()),)
    if expr[0] == "times":
        return there_and_back(n, bring_alone(n, expr[2], C, B, S), bring_by(n, expr[1], S, C, B))
    return both(n, expr[0], bring_alone(n, expr[1], S, B, C), bring_alone(n, expr[2], S, B, C))


def single_deed(n, expr, shelf, ts):
    """The one deed that brings a num or a given to the shelf, times what lies on the shelves ts."""
    if expr[0] == "num":
        return ("add", shelf, expr[1] % n, (), ts)
    return ("add", shelf, 1, (expr[1],), ts)


def both(n, word, one, other):
    """The row of a sum or a less of these two rows."""
    if word == "less":
        return one + deeds_back(n, other)
    return one + other


def there_and_back(n, first, second):
    """Both rows, then both turned back in the same order."""
    # What the second one brings twice differs just by what the first one had brought between.
    return first + second + deeds_back(n, first) + deeds_back(n, second)


def how_many(expr):
    """How many deeds each of the rows has that bring this expression."""
    if is_single(expr):
        return 1
    many = how_many(expr[1]) + how_many(expr[2])
    if expr[0] == "times":
        return 2 * many
    return many


def program_of(n, givens, expr, most=5000):
    """The program that brings the expression alone to shelf 0 of three, or refused with TooMany."""
    # Counted ahead, as the row itself may be too long to be made.
    if how_many(expr) > most:
        raise TooMany(most)
    return (n, givens, 3, bring_alone(n, expr, 0, 1, 2))
