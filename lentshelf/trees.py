"""Trees of tables: their worth, and the programs that bring it bit by bit."""

from lentshelf.errors import TooMany
from lentshelf.rounds import root_of, rounds_by
from lentshelf.tables import bits, polynomials


def tree_worth(k, tree, values):
    """The value that the tree is worth, by the values of its leaves' numbers."""
    if tree[0] == "leaf":
        return values[tree[1]]
    one = tree_worth(k, tree[2], values)
    other = tree_worth(k, tree[3], values)
    return tree[1][one * k + other]


def tree_program(n, k, givens, tree, most=5000):
    """The program that brings the bits of the tree's worth to its first shelves, or refused with NoRoot or TooMany."""
    many = bits(k)
    w = root_of(n, order(k))
    # Counted ahead, as the row itself may be too long to be made.
    if tree_deeds(n, k, tree) > most:
        raise TooMany(most)
    O, L, R = [tuple(range(at, at + many)) for at in (0, many, 2 * many)]
    return (n, givens, 3 * many, tree_row(n, k, w, tree, O, L, R))


def order(k):
    """The order of the root by which a table's rounds go."""
    # One more than the most factors that a term of a table's polynomial has.
    return 2 * bits(k) + 1


def tree_deeds(n, k, tree):
    """How many deeds the tree's row has."""
    many = bits(k)
    if tree[0] == "leaf":
        return many
    inner = sum([len(terms) for terms in polynomials(n, k, tree[1])])
    brought = tree_deeds(n, k, tree[2]) + tree_deeds(n, k, tree[3])
    return order(k) * (2 * brought + inner + 2 * many)


def tree_row(n, k, w, tree, O, L, R):
    """The deeds that bring the bits of the tree's worth to the shelves O, with the rows L and R as spares."""
    if tree[0] == "leaf":
        first = bits(k) * tree[1]
        return tuple([("add", shelf, 1, (given,), ()) for given, shelf in enumerate(O, start=first)])
    bringers = bringers_to(L, tree_row(n, k, w, tree[2], L, O, R))
    bringers += bringers_to(R, tree_row(n, k, w, tree[3], R, O, L))
    return rounds_by(n, order(k), w, bringers, table_deeds(n, k, tree[1], O, L + R))


def bringers_to(shelves, deeds):
    """The bringers by which these deeds are done once, and then each of the shelves is scaled."""
    return [(shelves[0], deeds)] + [(shelf, ()) for shelf in shelves[1:]]


def table_deeds(n, k, table, O, places):
    """The adds to the shelves O of the table's polynomials, by what lies on the shelves of the places."""
    deeds = []
    for shelf, terms in zip(O, polynomials(n, k, table)):
        for number, chosen in terms:
            deeds.append(("add", shelf, number, (), tuple(sorted([places[place] for place in chosen]))))
    return tuple(deeds)
