"""Two programs woven into one, and what hinders it."""

from lentshelf.moves import go_past


def hinders(one, other):
    """None where each deed of the one goes past each of the other, or the first pair of numbers that don't."""
    for i, deed in enumerate(one[3]):
        for j, other_deed in enumerate(other[3]):
            if not go_past(deed, other_deed):
                return (i, j)
    return None


def woven(one, other, turns):
    """The program of both programs' deeds, each one's in their order, taken by these turns."""
    rows = (one[3], other[3])
    gone = [0, 0]
    deeds = []
    for turn in turns:
        if gone[turn] < len(rows[turn]):
            deeds.append(rows[turn][gone[turn]])
            gone[turn] += 1
    left = rows[0][gone[0]:] + rows[1][gone[1]:]
    return (one[0], one[1], one[2], tuple(deeds) + left)
