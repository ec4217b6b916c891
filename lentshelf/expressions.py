"""Expressions: what they are worth; how many words they have, how deep they are, and so of papers."""


def worth(n, expr, givens):
    """The rest that the expression is worth by these givens."""
    word = expr[0]
    if word == "num":
        return expr[1] % n
    if word == "given":
        return givens[expr[1]] % n
    one = worth(n, expr[1], givens)
    other = worth(n, expr[2], givens)
    if word == "sum":
        return (one + other) % n
    if word == "less":
        return (one - other) % n
    return one * other % n


def is_single(expr):
    """Whether it is a num or a given, or of a paper a one, with nothing in it that has words itself."""
    return expr[0] in ("num", "given", "one")


def words(expr):
    """How many expressions are in it, itself too, each counted as often as it stands there."""
    if is_single(expr):
        return 1
    return 1 + words(expr[1]) + words(expr[2])


def depth(expr):
    """How deep it is, 0 for a num or a given."""
    if is_single(expr):
        return 0
    return 1 + max(depth(expr[1]), depth(expr[2]))
