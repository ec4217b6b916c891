"""Deeds that go past one another, and the kinds of deeds."""


def go_past(one, other):
    """Whether the two deeds may change places where they are neighbours."""
    return not hangs_on(one, other) and not hangs_on(other, one)


def hangs_on(one, other):
    """Whether the first deed is an add that does something else ahead of the second one than behind it."""
    if one[0] == "scale":
        return False
    # What is added to a shelf is the same in any order, but not whether it is there when the shelf is scaled.
    if other[0] == "scale" and other[1] == one[1]:
        return True
    return other[1] in one[4]


def kind(deed):
    """What the deed is but for its number."""
    if deed[0] == "scale":
        return ("scale", deed[1])
    return ("add", deed[1], deed[3], deed[4])
