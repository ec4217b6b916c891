"""Roots of order m by n."""

from lentshelf.rests import inverse, power


def is_root(n, w, m):
    """Whether the rest w is a root of order m."""
    if power(n, w, m) != 1:
        return False
    for i in range(1, m):
        if inverse(n, power(n, w, i) - 1) is None:
            return False
    return True


def root(n, m):
    """The least root of order m, or None."""
    for w in range(n):
        if is_root(n, w, m):
            return w
    return None
