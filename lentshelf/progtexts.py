"""The texts of programs, written and read."""

from lentshelf.errors import BadText
from lentshelf.figures import number_of
from lentshelf.programs import is_deed

MOST_FIGURES = 7
GREATEST_N = 1000000
MOST_GIVENS = 8
MOST_SHELVES = 9


def show(program):
    """The one text of a program."""
    n, givens, shelves, deeds = program
    rows = [f"rest {n} givens {givens} shelves {shelves}"]
    rows += [show_deed(deed) for deed in deeds]
    return "\n".join(rows)


def show_deed(deed):
    """The row of a deed."""
    if deed[0] == "scale":
        return f"s{deed[1]} * {deed[2]}"
    words = [f"s{deed[1]} + {deed[2]}"]
    words += [f"x{given}" for given in deed[3]]
    words += [f"s{shelf}" for shelf in deed[4]]
    return " ".join(words)


def read(text):
    """The program that has this text, or refused with BadText."""
    rows = text.split("\n")
    head = read_head(rows[0])
    if head is None:
        raise BadText(0)
    n, givens, shelves = head
    deeds = []
    for at, row in enumerate(rows[1:], start=1):
        deed = read_deed(row)
        if deed is None or not is_deed(n, givens, shelves, deed):
            raise BadText(at)
        deeds.append(deed)
    return (n, givens, shelves, tuple(deeds))


def read_head(row):
    """n, how many givens, how many shelves by row 0, or None."""
    words = row.split(" ")
    if words[0::2] != ["rest", "givens", "shelves"]:
        return None
    numbers = [number_of(word, MOST_FIGURES) for word in words[1::2]]
    if len(numbers) != 3 or None in numbers:
        return None
    n, givens, shelves = numbers
    if not 2 <= n <= GREATEST_N or givens > MOST_GIVENS or not 1 <= shelves <= MOST_SHELVES:
        return None
    return (n, givens, shelves)


def read_deed(row):
    """The deed that a row writes, let by or not, or None."""
    words = row.split(" ")
    if len(words) < 3:
        return None
    shelf = number_behind("s", words[0])
    number = number_of(words[2], MOST_FIGURES)
    if shelf is None or number is None:
        return None
    if words[1] == "*" and len(words) == 3:
        return ("scale", shelf, number)
    if words[1] == "+":
        return read_add(shelf, number, words[3:])
    return None


def read_add(shelf, number, words):
    """The add of these factors' words, or None: the givens stand ahead of the shelves."""
    many = 0
    while many < len(words) and words[many].startswith("x"):
        many += 1
    gs = [number_behind("x", word) for word in words[:many]]
    ts = [number_behind("s", word) for word in words[many:]]
    if None in gs or None in ts:
        return None
    return ("add", shelf, number, tuple(gs), tuple(ts))


def number_behind(letter, word):
    """The number that a word writes behind this letter, or None."""
    if not word.startswith(letter):
        return None
    return number_of(word[1:], MOST_FIGURES)
