"""Runs of programs."""


def run(program, givens, contents):
    """What lies on the shelves behind the program's deeds."""
    for deed in program[3]:
        contents = done(program[0], deed, givens, contents)
    return contents


def done(n, deed, givens, contents):
    """What lies on the shelves behind this one deed."""
    shelf, number = deed[1], deed[2]
    lies = contents[shelf]
    if deed[0] == "scale":
        lies = lies * number
    else:
        lies = lies + number * product_of(deed[3], givens) * product_of(deed[4], contents)
    return contents[:shelf] + (lies % n,) + contents[shelf + 1:]


def product_of(places, numbers):
    """The product of the numbers at these places, each as often as it stands there."""
    told = 1
    for place in places:
        told = told * numbers[place]
    return told
