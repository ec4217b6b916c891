"""Programs: looked at, turned back, one behind another, renamed."""

from lentshelf.errors import NoDeed, NoRest
from lentshelf.rests import inverse

MOST_FACTORS = 4


def look(program):
    """True, or refused with NoRest or NoDeed."""
    n, givens, shelves, deeds = program
    if n < 2:
        raise NoRest()
    for at, deed in enumerate(deeds):
        if not is_deed(n, givens, shelves, deed):
            raise NoDeed(at)
    return True


def is_deed(n, givens, shelves, deed):
    """Whether the deed may stand in a program by n with so many givens and shelves."""
    shelf, number = deed[1], deed[2]
    if not 0 <= shelf < shelves or not 0 <= number < n:
        return False
    if deed[0] == "scale":
        return inverse(n, number) is not None
    gs, ts = deed[3], deed[4]
    return are_factors(gs, givens) and are_factors(ts, shelves) and shelf not in ts


def are_factors(numbers, many):
    """Whether these are few enough, from 0 to less than many, and don't fall."""
    if len(numbers) > MOST_FACTORS:
        return False
    least = 0
    for number in numbers:
        if number < least or number >= many:
            return False
        least = number
    return True


def turned_back(program):
    """The program that undoes what this one does."""
    n, givens, shelves, deeds = program
    return (n, givens, shelves, deeds_back(n, deeds))


def deeds_back(n, deeds):
    """The deeds that undo these, from the end on."""
    return tuple([deed_back(n, deed) for deed in reversed(deeds)])


def deed_back(n, deed):
    """The deed that undoes this one."""
    if deed[0] == "scale":
        return ("scale", deed[1], inverse(n, deed[2]))
    return ("add", deed[1], -deed[2] % n, deed[3], deed[4])


def behind(one, other):
    """The program of the first one's deeds, then the second one's."""
    return (one[0], max(one[1], other[1]), max(one[2], other[2]), one[3] + other[3])


def renamed(program, places):
    """The program with the shelf of number places[S] in the place of each shelf S."""
    n, givens = program[0], program[1]
    deeds = tuple([deed_renamed(deed, places) for deed in program[3]])
    return (n, givens, max(places) + 1, deeds)


def deed_renamed(deed, places):
    """The deed with other shelves' numbers."""
    shelf = places[deed[1]]
    if deed[0] == "scale":
        return ("scale", shelf, deed[2])
    # The told numbers may fall where the shelves' own didn't.
    ts = tuple(sorted([places[other] for other in deed[4]]))
    return ("add", shelf, deed[2], deed[3], ts)
