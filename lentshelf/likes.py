"""Whether two programs do the same, and what a program gives back, whatever lies there."""

from lentshelf.forms import first_unlike, form_less
from lentshelf.symbols import forms_behind, letter_form


def alike(one, other, most=60):
    """None where both do the same, or (givens, contents) at which they don't, or refused with TooMany."""
    ones = forms_behind(one, most)
    others = forms_behind(other, most)
    return where_unlike(one, ones, others)


def where_unlike(program, ones, others):
    """(givens, contents) by the first two forms of a shelf that are unlike, or None."""
    n, givens = program[0], program[1]
    for form, other in zip(ones, others):
        point = first_unlike(n, form, other)
        if point is not None:
            return (point[:givens], point[givens:])
    return None


def gives_back(program, S, most=60):
    """None where all shelves but S come back, or (givens, contents) at which one doesn't, or refused with TooMany."""
    ones = list(forms_behind(program, most))
    others = lying_ahead(program)
    ones[S] = others[S]
    return where_unlike(program, ones, others)


def lying_ahead(program):
    """For each shelf the form of what lies there ahead of all deeds."""
    givens, shelves = program[1], program[2]
    return [letter_form(givens + shelves, givens + shelf) for shelf in range(shelves)]


def gets(program, S, most=60):
    """The form of what S gets: what lies there behind, less what lay there; or refused with TooMany."""
    behind = forms_behind(program, most)[S]
    return form_less(program[0], behind, lying_ahead(program)[S])
