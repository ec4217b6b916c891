"""The checker: goes along a program's deeds by a paper and tells what they bring."""

from lentshelf.errors import NoPaper
from lentshelf.programs import deeds_back


def shown(program, paper, S, B, C, by):
    """The expression that the deeds bring to S, by B or alone, or refused with NoPaper."""
    n, deeds = program[0], program[3]
    expr, end = along(n, deeds, 0, paper, (S, B, C), by, False)
    if end < len(deeds):
        raise NoPaper(end)
    return expr


def along(n, deeds, at, paper, shelves, by, back):
    """What the deeds from this one on show by the paper, forth or back, and the number of the deed behind them."""
    word = paper[0]
    if word == "one":
        return along_one(n, deeds, at, shelves, by, back)
    if word == "times":
        return along_times(n, deeds, at, paper, shelves, by, back)
    # What is taken away lies there turned back, and so forth in what is itself turned back.
    if back:
        other, at = along(n, deeds, at, paper[2], shelves, by, word == "sum")
        one, at = along(n, deeds, at, paper[1], shelves, by, True)
    else:
        one, at = along(n, deeds, at, paper[1], shelves, by, False)
        other, at = along(n, deeds, at, paper[2], shelves, by, word == "less")
    return (word, one, other), at


def along_one(n, deeds, at, shelves, by, back):
    """The num or given that the deed of this number shows, and the next number."""
    ts = (shelves[1],) if by else ()
    if at == len(deeds):
        raise NoPaper(at)
    deed = deeds[at]
    if deed[0] != "add" or deed[1] != shelves[0] or deed[4] != ts:
        raise NoPaper(at)
    number = -deed[2] % n if back else deed[2]
    if len(deed[3]) == 0:
        return ("num", number), at + 1
    if len(deed[3]) > 1 or number != 1:
        raise NoPaper(at)
    return ("given", deed[3][0]), at + 1


def along_times(n, deeds, at, paper, shelves, by, back):
    """The product that the deeds from this one on show, and the number of the deed behind them."""
    S, B, C = shelves
    if back:
        one, middle = along(n, deeds, at, paper[1], (S, C, B), True, False)
        other, end = along(n, deeds, middle, paper[2], (C, B, S), by, False)
    else:
        other, middle = along(n, deeds, at, paper[2], (C, B, S), by, False)
        one, end = along(n, deeds, middle, paper[1], (S, C, B), True, False)
    undone = deeds_back(n, deeds[at:middle]) + deeds_back(n, deeds[middle:end])
    return ("times", one, other), just_these(deeds, end, undone)


def just_these(deeds, at, asked):
    """The number of the deed behind those asked for, which stand from this one on, or refused with NoPaper."""
    for deed in asked:
        if deeds[at:at + 1] != (deed,):
            raise NoPaper(at)
        at += 1
    return at
