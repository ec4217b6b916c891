"""Rows of deeds by rounds, and the products that they bring."""

from lentshelf.errors import NoRoot, TooMany
from lentshelf.making import bring_alone, how_many
from lentshelf.programs import deeds_back
from lentshelf.rests import inverse
from lentshelf.roots import root


def rounds(n, m, bringers, inner):
    """The m rounds of deeds that do the inner ones on what the bringers bring, or refused with NoRoot."""
    return rounds_by(n, m, root_of(n, m), bringers, inner)


def root_of(n, m):
    """The least root of order m, or refused with NoRoot."""
    w = root(n, m)
    if w is None:
        raise NoRoot(m)
    return w


def rounds_by(n, m, w, bringers, inner):
    """The m rounds by the root w of order m."""
    u = inverse(n, m)
    row = ()
    for shelf, deeds in bringers:
        row = row + deeds
    back = deeds_back(n, row)
    row = row + tuple([("add", S, u * c % n, gs, ts) for word, S, c, gs, ts in inner])
    row = row + back + tuple([("scale", shelf, w) for shelf, deeds in bringers])
    return row * m


def product(n, givens, exprs, most=5000):
    """The program that brings the product of the expressions to shelf 0, or refused with NoRoot or TooMany."""
    many = len(exprs)
    m = many + 1
    w = root_of(n, m)
    # Counted ahead, as the rows themselves may be too long to be made.
    if m * (2 * sum([how_many(expr) for expr in exprs]) + 1 + many) > most:
        raise TooMany(most)
    bringers = [bringer(n, expr, at + 1) for at, expr in enumerate(exprs)]
    inner = (("add", 0, 1, (), tuple(range(1, m))),)
    return (n, givens, max(3, m), rounds_by(n, m, w, bringers, inner))


def bringer(n, expr, shelf):
    """The shelf, and the deeds that bring the expression to it alone."""
    spares = [other for other in range(3) if other != shelf]
    return (shelf, bring_alone(n, expr, shelf, spares[0], spares[1]))
