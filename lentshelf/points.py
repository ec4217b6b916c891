"""Products of forms by what they are at points: quick where many terms stand close together."""

from lentshelf.rests import inverse
from lentshelf.steps import common


def product_by_points(n, one, other, lasts):
    """The form of the product, where no steps of it are above lasts, one for each letter."""
    ones = values_of(n, one, lasts)
    others = values_of(n, other, lasts)
    values = [number * other_number % n for number, other_number in zip(ones, others)]
    stride = 1
    for last in reversed(lasts):
        values = differences(n, values, stride, last)
        stride = stride * (last + 1)
    return form_by(n, values, lasts)


def values_of(n, form, lasts):
    """What the form is at each point from 0 to lasts, in the order of the points."""
    size = 1
    for last in lasts:
        size = size * (last + 1)
    values = [0] * size
    for steps, number in form:
        values[place_of(steps, lasts)] = number * factorials(steps) % n
    stride = 1
    for last in reversed(lasts):
        values = sums(n, values, stride, last)
        stride = stride * (last + 1)
    return values


def place_of(steps, lasts):
    """The number of this point among all points from 0 to lasts."""
    place = 0
    for e, last in zip(steps, lasts):
        place = place * (last + 1) + e
    return place


def factorials(steps):
    """The product of all e!."""
    told = 1
    for e in steps:
        for factor in range(2, e + 1):
            told = told * factor
    return told


def sums(n, values, stride, last):
    """By one letter's differences at 0 of each order its values at 0, 1 .. last."""
    told = list(values)
    for start in range(0, len(told), stride * (last + 1)):
        end = start + stride * (last + 1)
        for least in range(last, 0, -1):
            for at in range(start + least * stride, end):
                told[at] += told[at - stride]
    return [value % n for value in told]


def differences(n, values, stride, last):
    """By one letter's values at 0, 1 .. last its differences at 0 of each order."""
    told = list(values)
    for start in range(0, len(told), stride * (last + 1)):
        end = start + stride * (last + 1)
        for least in range(1, last + 1):
            for at in range(end - 1, start + least * stride - 1, -1):
                told[at] -= told[at - stride]
    return [value % n for value in told]


def form_by(n, values, lasts):
    """The form that has these differences at the point 0: each is its term's number times the product of all e!."""
    terms = []
    for place, value in enumerate(values):
        if value > 0:
            steps = steps_at(place, lasts)
            times = factorials(steps)
            g = common(n, times)
            terms.append((steps, value // g * inverse(n // g, times // g) % (n // g)))
    return tuple(terms)


def steps_at(place, lasts):
    """The point of this number among all points from 0 to lasts."""
    steps = []
    for last in reversed(lasts):
        steps.append(place % (last + 1))
        place = place // (last + 1)
    steps.reverse()
    return tuple(steps)
