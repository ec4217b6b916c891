"""Expressions and programs that several tests ask about, made by chance of a written seed."""

import math

WORDS = ("sum", "less", "times")


def chance_single(chance, givens):
    if givens and chance.random() < 0.5:
        return ("given", chance.randrange(givens))
    return ("num", chance.choice([0, 1, 2, 9, 10, 999999, chance.randint(0, 999999)]))


def chance_expr(chance, deep, givens=8):
    """An expression at most so deep."""
    if deep == 0 or chance.random() < 0.15:
        return chance_single(chance, givens)
    one = chance_expr(chance, chance.randint(0, deep - 1), givens)
    other = chance_expr(chance, chance.randint(0, deep - 1), givens)
    return (chance.choice(WORDS), one, other)


def left_chain(chance, deep):
    expr = chance_single(chance, 8)
    for turn in range(deep):
        expr = (chance.choice(WORDS), expr, chance_single(chance, 8))
    return expr


def right_chain(chance, deep):
    expr = chance_single(chance, 8)
    for turn in range(deep):
        expr = (chance.choice(WORDS), chance_single(chance, 8), expr)
    return expr
