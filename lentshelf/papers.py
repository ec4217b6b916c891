"""Papers: what a program that brings an expression is to be checked by."""

from lentshelf.expressions import is_single


def paper_of(expr):
    """The paper of an expression: the same words, but one for each num and given."""
    if is_single(expr):
        return ("one",)
    return (expr[0], paper_of(expr[1]), paper_of(expr[2]))
