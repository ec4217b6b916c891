"""Products of forms, pair by pair of their terms, stopped as soon as there are too many terms."""

from lentshelf.errors import TooMany
from lentshelf.steps import room, room_of


def product_by_pairs(n, one, other, most):
    """The form of the product of two that have terms, or refused with TooMany; most None lets any number by."""
    shared = [at for at in range(len(one[0][0])) if stands(one, at) and stands(other, at)]
    found = []
    gather(n, [(1, parted(one, shared), parted(other, shared))], (), len(shared), found, most)
    return tuple(sorted([(joined(head, tail, shared), number) for head, tail, number in found]))


def stands(form, at):
    """Whether the form has a term with steps of this letter."""
    return any([steps[at] > 0 for steps, number in form])


def parted(form, shared):
    """The terms as (head, tail, number), head the steps of the letters that both forms share."""
    told = []
    for steps, number in form:
        tail = tuple([e for at, e in enumerate(steps) if at not in shared])
        told.append((tuple([steps[at] for at in shared]), tail, number))
    return told


def joined(head, tail, shared):
    """The steps of all letters in their order."""
    steps = list(tail)
    for at, e in zip(shared, head):
        steps.insert(at, e)
    return tuple(steps)


def gather(left, parts, head, many, found, most):
    """Puts into found the terms that begin with this head, of the sum of parts (times, ones, others)."""
    # Letter by letter, so that no two calls find the same term, and what is found can be counted at once.
    if len(head) == many:
        gather_tails(left, parts, head, found)
        if most is not None and len(found) > most:
            raise TooMany(most)
        return
    by_steps = spread(left, parts, len(head))
    for e in sorted(by_steps):
        gather(room(left, e), by_steps[e], head + (e,), many, found, most)


def gather_tails(left, parts, head, found):
    """Puts into found the terms of this whole head: letters of one form alone just stand there as they are."""
    numbers = {}
    for times, ones, others in parts:
        for a, tail, number in ones:
            for b, other_tail, other_number in others:
                both = tuple([e + other for e, other in zip(tail, other_tail)])
                numbers[both] = numbers.get(both, 0) + times * number * other_number
    for tail, number in numbers.items():
        number = number % room_of(left, tail)
        if number > 0:
            found.append((head, tail, number))


def spread(left, parts, at):
    """The parts, by the steps of the shared letter of this number in the product."""
    told = {}
    for times, ones, others in parts:
        by_other = by_letter(others, at)
        for a, some in by_letter(ones, at).items():
            for b, some_others in by_other.items():
                for e, number in product_of_steps(a, b):
                    number = times * number % room(left, e)
                    if number > 0:
                        told.setdefault(e, []).append((number, some, some_others))
    return told


def by_letter(terms, at):
    """The terms, by the steps of the shared letter of this number."""
    told = {}
    for term in terms:
        told.setdefault(term[0][at], []).append(term)
    return told


def product_of_steps(a, b):
    """The product of steps a and steps b of one letter: a list of (steps, number)."""
    told = []
    number = 1
    for met in range(min(a, b) + 1):
        told.append((a + b - met, number))
        number = number * (a - met) * (b - met) // (met + 1)
    return told
