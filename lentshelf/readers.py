"""Readers of words: whether they take a word, and the expressions that are worth 1 where they do, else 0."""


def takes(reader, word):
    """Whether the reader takes the word."""
    row = 0
    for sign in word:
        row = reader[row][1 + sign]
    return reader[row][0]


def reader_expr(reader, places):
    """The reader's expression for words of so many places, the place t being given t."""
    if places == 0:
        return ("num", 1 if reader[0][0] else 0)
    ends = [j for j in range(len(reader)) if reader[j][0]]
    told = added([leads(reader, 0, j, 0, places) for j in ends])
    if told is None:
        return ("num", 0)
    return told


def leads(reader, i, j, t, many):
    """The expression that is worth 1 where so many places from t on lead from row i to row j, or None."""
    if many == 1:
        return leads_at_once(reader[i], j, t)
    half = many // 2
    ways = []
    for k in range(len(reader)):
        one = leads(reader, i, k, t, half)
        other = leads(reader, k, j, t + half, many - half)
        if one is not None and other is not None:
            ways.append(("times", one, other))
    return added(ways)


def leads_at_once(row, j, t):
    """The expression that is worth 1 where the place t leads from this row to row j, or None."""
    if row[1] == j and row[2] == j:
        return ("num", 1)
    if row[1] == j:
        return ("less", ("num", 1), ("given", t))
    if row[2] == j:
        return ("given", t)
    return None


def added(ways):
    """The sum, from the left, of those that aren't None, or None where there is none."""
    told = None
    for way in ways:
        if told is None:
            told = way
        elif way is not None:
            told = ("sum", told, way)
    return told
