"""Forms of polynomials: each polynomial has one by n, the same just where the rests are the same everywhere."""

from lentshelf.products import product_within
from lentshelf.steps import settled


def form_of(n, many, terms):
    """The form of a polynomial of so many letters, a tuple of (exponents, number)."""
    numbers = {}
    for exponents, number in terms:
        numbers[exponents] = numbers.get(exponents, 0) + number
    for at in range(many):
        numbers = in_steps(n, numbers, at)
    return settled(n, numbers)


def in_steps(n, numbers, at):
    """The numbers by the steps of this letter in the place of its exponents."""
    told = {}
    for exponents, number in numbers.items():
        for e, times in enumerate(power_in_steps(exponents[at])):
            steps = exponents[:at] + (e,) + exponents[at + 1:]
            told[steps] = (told.get(steps, 0) + number * times) % n
    return told


def power_in_steps(exponent):
    """For steps 0, 1 .. of a letter their number in this power of it."""
    row = [1]
    for turn in range(exponent):
        # The letter times its steps e is steps e + 1, and e times steps e.
        longer = [e * number for e, number in enumerate(row)] + [0]
        for e, number in enumerate(row):
            longer[e + 1] += number
        row = longer
    return row


def form_sum(n, one, other):
    """The form of the sum."""
    numbers = dict(one)
    for steps, number in other:
        numbers[steps] = numbers.get(steps, 0) + number
    return settled(n, numbers)


def form_scaled(n, one, times):
    """The form times a number."""
    return settled(n, {steps: number * times for steps, number in one})


def form_less(n, one, other):
    """The form of the first less the second."""
    return form_sum(n, one, form_scaled(n, other, -1))


def form_product(n, one, other):
    """The form of the product."""
    return product_within(n, one, other, None)


def worth_at(n, one, point):
    """The rest that the form is worth at a point."""
    told = 0
    for steps, number in one:
        for letter, e in zip(point, steps):
            for less in range(e):
                number = number * (letter - less) % n
        told += number
    return told % n


def first_unlike(n, one, other):
    """None where the forms are the same, or a point where they have unlike rests."""
    less = form_less(n, one, other)
    if len(less) == 0:
        return None
    # At the steps of its first term all later terms have a factor 0.
    return less[0][0]
