"""Expressions and programs that several tests ask about, made by chance of a written seed."""

import math

WORDS = ("sum", "less", "times")


def chance_single(chance, givens):
    if givens and chance.random() < 0.5:
        return ("given", chance.randrange(givens))
    return ("num", chance.choice([0, 1, 2, 9, 10, 999999, chance.randint(0, 999999)]))


def chance_expr(chance, deep, givens=8):
    """An expression at most so deep."""
    if deep == 0 or chance.random() < 0.15:
        return chance_single(chance, givens)
    one = chance_expr(chance, chance.randint(0, deep - 1), givens)
    other = chance_expr(chance, chance.randint(0, deep - 1), givens)
    return (chance.choice(WORDS), one, other)


def left_chain(chance, deep):
    expr = chance_single(chance, 8)
    for turn in range(deep):
        expr = (chance.choice(WORDS), expr, chance_single(chance, 8))
    return expr


def right_chain(chance, deep):
    expr = chance_single(chance, 8)
    for turn in range(deep):
        expr = (chance.choice(WORDS), chance_single(chance, 8), expr)
    return expr


def chance_factors(chance, numbers):
    if not numbers:
        return ()
    return tuple(sorted([chance.choice(numbers) for turn in range(chance.randint(0, 4))]))


def chance_deed(chance, n, givens, shelves):
    shelf = chance.randrange(shelves)
    if chance.random() < 0.3:
        return ("scale", shelf, chance.choice([u for u in (1, n - 1, 3, 7, 11, 13) if u < n and math.gcd(u, n) == 1]))
    c = chance.choice([0, 1, n - 1, chance.randrange(n)])
    others = [other for other in range(shelves) if other != shelf]
    return ("add", shelf, c, chance_factors(chance, range(givens)), chance_factors(chance, others))


def chance_program(chance, n=None, givens=None, shelves=None, many=None):
    """A program that is let by."""
    n = chance.choice([2, 3, 4, 10, 12, 97, 720720, 999983, 1000000]) if n is None else n
    givens = chance.randint(0, 8) if givens is None else givens
    shelves = chance.randint(1, 9) if shelves is None else shelves
    many = chance.randint(0, 12) if many is None else many
    return (n, givens, shelves, tuple([chance_deed(chance, n, givens, shelves) for turn in range(many)]))


def chance_rests(chance, n, many):
    return tuple([chance.choice([0, 1, n - 1, chance.randrange(n)]) for turn in range(many)])


def spoilt(text, signs):
    """The text with a sign left out, twice, put in or exchanged, at each place."""
    for at in range(len(text) + 1):
        for sign in signs:
            yield text[:at] + sign + text[at:]
    for at in range(len(text)):
        yield text[:at] + text[at + 1:]
        yield text[:at] + text[at] + text[at:]
        for sign in signs:
            yield text[:at] + sign + text[at + 1:]
        yield text[:at] + text[at + 1:at + 2] + text[at] + text[at + 2:]
        yield text[:at]
