"""Sayings: whether they hold, and the expressions that are worth 1 where they do, else 0."""

from lentshelf.errors import NoInverse
from lentshelf.rests import inverse


def holds(saying, answers):
    """Whether the saying holds by these answers."""
    word = saying[0]
    if word == "yes":
        return answers[saying[1]] == 1
    if word == "not":
        return not holds(saying[1], answers)
    if word == "and":
        return holds(saying[1], answers) and holds(saying[2], answers)
    if word == "or":
        return holds(saying[1], answers) or holds(saying[2], answers)
    return len([part for part in saying[2] if holds(part, answers)]) >= saying[1]


def said(n, saying):
    """The saying's expression, or refused with NoInverse."""
    word = saying[0]
    if word == "yes":
        return ("given", saying[1])
    if word == "not":
        return ("less", ("num", 1), said(n, saying[1]))
    if word == "least":
        return said_least(n, saying[1], [said(n, part) for part in saying[2]])
    one = said(n, saying[1])
    other = said(n, saying[2])
    if word == "and":
        return ("times", one, other)
    return ("less", ("sum", one, other), ("times", one, other))


def said_least(n, k, parts):
    """The expression of at least k of these expressions, each worth 1 or 0, or refused with NoInverse."""
    many = len(parts)
    total = parts[0]
    for part in parts[1:]:
        total = ("sum", total, part)
    numbers = step_numbers(n, [1 if j >= k else 0 for j in range(many + 1)])
    told = ("num", numbers[many])
    for i in reversed(range(many)):
        told = ("sum", ("num", numbers[i]), ("times", ("less", total, ("num", i)), told))
    return told


def step_numbers(n, row):
    """The rests a(i) by which the sum of a(i) times j (j - 1) .. (j - i + 1) is the row's number at each j."""
    told = [row[0] % n]
    left = row
    over = 1
    for i in range(1, len(row)):
        left = [later - ahead for ahead, later in zip(left, left[1:])]
        # Factor by factor, so that the least one without an inverse is the one that is told.
        over = over * inverse_of(n, i) % n
        told.append(left[0] * over % n)
    return told


def inverse_of(n, number):
    """The inverse, or refused with NoInverse."""
    told = inverse(n, number)
    if told is None:
        raise NoInverse(number)
    return told
