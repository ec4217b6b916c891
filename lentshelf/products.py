"""Products of forms, by the way that is the shorter one."""

from lentshelf.errors import TooMany
from lentshelf.meeting import product_by_pairs
from lentshelf.points import product_by_points
from lentshelf.steps import room

# A point costs less than a pair of terms, which mostly spreads to several.
POINTS_FOR_A_PAIR = 4


def product_within(n, one, other, most):
    """The form of the product, or refused with TooMany; most None lets any number of terms by."""
    if len(one) == 0 or len(other) == 0:
        return ()
    lasts = last_steps(n, one, other)
    if how_many_points(lasts) > POINTS_FOR_A_PAIR * len(one) * len(other):
        return product_by_pairs(n, one, other, most)
    return within(product_by_points(n, one, other, lasts), most)


def within(form, most):
    """The form itself, or refused with TooMany."""
    if most is not None and len(form) > most:
        raise TooMany(most)
    return form


def last_steps(n, one, other):
    """For each letter the greatest steps that the product of the forms may have."""
    lasts = []
    for at in range(len(one[0][0])):
        last = max([steps[at] for steps, number in one]) + max([steps[at] for steps, number in other])
        lasts.append(last_with_room(n, last))
    return lasts


def last_with_room(n, last):
    """The greatest steps of one letter, up to these, that a term of a form may have."""
    # Beyond these n divides the product of the factors, whatever the number.
    while room(n, last) == 1:
        last -= 1
    return last


def how_many_points(lasts):
    """How many points there are from 0 to lasts."""
    many = 1
    for last in lasts:
        many = many * (last + 1)
    return many
