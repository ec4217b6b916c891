"""What a program does to whatever lies there, by one form for each shelf; the forms of expressions."""

from lentshelf.forms import form_less, form_scaled, form_sum
from lentshelf.products import product_within, within
from lentshelf.steps import settled


def forms_behind(program, most=60):
    """For each shelf the form of what lies there behind the deeds, or refused with TooMany."""
    n, givens, shelves, deeds = program
    many = givens + shelves
    forms = [letter_form(many, at) for at in range(many)]
    for deed in deeds:
        forms[givens + deed[1]] = form_behind(n, givens, forms, deed, most)
    return tuple(forms[givens:])


def letter_form(many, at):
    """The form of this one of so many letters."""
    return (((0,) * at + (1,) + (0,) * (many - at - 1), 1),)


def number_form(n, many, number):
    """The form of a number, by so many letters."""
    return settled(n, {(0,) * many: number})


def form_behind(n, givens, forms, deed, most):
    """The form of the deed's shelf behind the deed, forms those of the givens and the shelves ahead of it."""
    ahead = forms[givens + deed[1]]
    if deed[0] == "scale":
        return within(form_scaled(n, ahead, deed[2]), most)
    told = number_form(n, len(forms), deed[2])
    for given in deed[3]:
        told = product_within(n, told, forms[given], most)
    for shelf in deed[4]:
        told = product_within(n, told, forms[givens + shelf], most)
    return within(form_sum(n, ahead, told), most)


def expr_form(n, givens, expr, most=60):
    """The form of an expression, by the givens as letters, or refused with TooMany."""
    word = expr[0]
    if word == "num":
        return number_form(n, givens, expr[1])
    if word == "given":
        return letter_form(givens, expr[1])
    one = expr_form(n, givens, expr[1], most)
    other = expr_form(n, givens, expr[2], most)
    if word == "times":
        return product_within(n, one, other, most)
    if word == "less":
        return within(form_less(n, one, other), most)
    return within(form_sum(n, one, other), most)
