"""Steps of letters: how many unlike numbers a term may have, and the forms that are made of terms."""


def common(one, other):
    """The greatest common divisor of two numbers that aren't below 0."""
    while other > 0:
        one, other = other, one % other
    return one


def room(many, e):
    """How many unlike numbers are left of so many, where steps e of one more letter stand in a term."""
    # Factor by factor, as the product of them all may be very great.
    for factor in range(2, e + 1):
        if many == 1:
            return 1
        many = many // common(many, factor)
    return many


def room_of(many, steps):
    """How many unlike numbers are left of so many behind the steps of several letters."""
    for e in steps:
        many = room(many, e)
    return many


def settled(n, numbers):
    """The form of the terms that have these numbers, by their steps."""
    terms = [(steps, number % room_of(n, steps)) for steps, number in numbers.items()]
    return tuple(sorted([(steps, number) for steps, number in terms if number > 0]))
