"""Short programs, the roads of moves that lead to them, and where moves lead."""

from lentshelf.errors import NoMove
from lentshelf.moves import go_past, kind


def short(program):
    """The one short program to which moves lead from this one."""
    return led(program, road(program))


def led(program, moves):
    """The program to which the moves lead, one after another, or refused with NoMove."""
    n, givens, shelves, deeds = program
    row = list(deeds)
    for at, move in enumerate(moves):
        if not can_be_done(row, move):
            raise NoMove(at)
        do_move(n, row, move)
    return (n, givens, shelves, tuple(row))


def can_be_done(row, move):
    """Whether the row of deeds lets this move be done."""
    word, i = move
    if word == "out":
        return 0 <= i < len(row) and is_idle(row[i])
    if not 0 <= i < len(row) - 1:
        return False
    if word == "past":
        return go_past(row[i], row[i + 1])
    return kind(row[i]) == kind(row[i + 1])


def is_idle(deed):
    """Whether it is an add of number 0 or a scale by 1."""
    return deed[2] == (1 if deed[0] == "scale" else 0)


def do_move(n, row, move):
    """Changes the row of deeds by a move that can be done."""
    word, i = move
    if word == "past":
        row[i], row[i + 1] = row[i + 1], row[i]
    elif word == "one":
        row[i:i + 2] = [one_of(n, row[i], row[i + 1])]
    else:
        del row[i]


def one_of(n, deed, other):
    """The one deed that does what two of its kind do."""
    if deed[0] == "scale":
        return ("scale", deed[1], deed[2] * other[2] % n)
    return ("add", deed[1], (deed[2] + other[2]) % n, deed[3], deed[4])


def road(program):
    """The moves that lead from the program to its short one."""
    n = program[0]
    row = list(program[3])
    moves = []
    many = 0
    # Ahead of this number the row is short by itself, and stays so by each deed that is taken in.
    while many < len(row):
        many = take_in(n, row, many, moves)
    return tuple(moves)


def take_in(n, row, at, moves):
    """Takes the deed of this number into the short row ahead of it, and tells how many deeds that has then."""
    if is_idle(row[at]):
        go(n, row, ("out", at), moves)
        return at
    like, place = where_to(row, at)
    if like is None:
        go_ahead(n, row, at, place, moves)
        return at + 1
    go_ahead(n, row, at, like + 1, moves)
    go(n, row, ("one", like), moves)
    if is_idle(row[like]):
        go(n, row, ("out", like), moves)
        return at - 1
    return at


def go(n, row, move, moves):
    """Does the move and keeps it."""
    do_move(n, row, move)
    moves.append(move)


def go_ahead(n, row, at, place, moves):
    """Moves the deed of this number past its neighbours to an earlier place."""
    for i in range(at - 1, place - 1, -1):
        go(n, row, ("past", i), moves)


def where_to(row, at):
    """The number of the deed of its kind that this one can get to, or None, and the place in the order for it."""
    deed = row[at]
    place = at
    for i in range(at - 1, -1, -1):
        if kind(row[i]) == kind(deed):
            return (i, at)
        if not go_past(row[i], deed):
            return (None, place)
        if rank(deed) < rank(row[i]):
            place = i
    return (None, place)


def rank(deed):
    """What deeds are ordered by: shelf, adds ahead of scales, givens, other shelves."""
    return (deed[1], deed[0] == "scale") + deed[3:]
