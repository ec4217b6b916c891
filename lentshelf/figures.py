"""Whole numbers as texts write them: by figures, without a nought ahead of others."""

FIGURES = "0123456789"


def figures_end(text, at):
    """Where the figures that stand in the text from this place on end."""
    end = at
    while end < len(text) and text[end] in FIGURES:
        end += 1
    return end


def number_of(text, most):
    """The number that the whole text writes by at most so many figures, or None."""
    # How long it is comes first: Python itself refuses to read some thousand figures.
    if text == "" or len(text) > most:
        return None
    if figures_end(text, 0) < len(text):
        return None
    if text[0] == "0" and len(text) > 1:
        return None
    return int(text)
