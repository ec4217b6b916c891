"""The refusals. Their words are fixed, as a field may be a number too long to be written out."""


class LentError(ValueError):
    """Any refusal."""


class NoRest(LentError):
    """There are no rests by a number below 2."""


class NoDeed(LentError):
    """The deed of number at can't stand in its program."""

    def __init__(self, at):
        LentError.__init__(self, "no such deed")
        self.at = at


class BadText(LentError):
    """The row of this number, from 0, can't stand in such a text."""

    def __init__(self, row):
        LentError.__init__(self, "no such text")
        self.row = row


class NoPaper(LentError):
    """The deed of number at isn't as the paper asks."""

    def __init__(self, at):
        LentError.__init__(self, "the deeds don't go by the paper")
        self.at = at


class TooMany(LentError):
    """There are more than most."""

    def __init__(self, most):
        LentError.__init__(self, "more than asked")
        self.most = most


class NoRoot(LentError):
    """There is no root of order many."""

    def __init__(self, many):
        LentError.__init__(self, "no root of this order")
        self.many = many


class NoInverse(LentError):
    """This number has no inverse."""

    def __init__(self, number):
        LentError.__init__(self, "no inverse")
        self.number = number


class NoMove(LentError):
    """The move of number at can't be done."""

    def __init__(self, at):
        LentError.__init__(self, "no such move")
        self.at = at


class NoRow(LentError):
    """The desk knows no such row."""
