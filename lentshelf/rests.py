"""Rests by n: inverses and powers."""


def inverse(n, k):
    """The rest that times k has rest 1, or None."""
    # Euclid's steps; ahead of and behind each of them k times now has the rest of low.
    high, low = n, k % n
    past, now = 0, 1
    while low > 0:
        times = high // low
        high, low = low, high - times * low
        past, now = now, past - times * now
    if high != 1:
        return None
    return past % n


def power(n, k, e):
    """The rest of k to the power of e, e from 0 on."""
    told = 1 % n
    square = k % n
    left = e
    # By squares, as e may be too great to multiply e times.
    while left > 0:
        if left % 2 == 1:
            told = told * square % n
        square = square * square % n
        left = left // 2
    return told
