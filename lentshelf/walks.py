"""Walks along a program's deeds, forth and back."""

from lentshelf.programs import deed_back
from lentshelf.running import done


class Walk:
    """A program under way: what lies on the shelves behind as many deeds as are done."""

    def __init__(self, program, givens, contents):
        self.program = program
        self.givens = givens
        self.contents = contents
        self.steps = 0

    def forth(self):
        """Does the next deed: True, or False where there is none."""
        n, deeds = self.program[0], self.program[3]
        if self.steps == len(deeds):
            return False
        self.contents = done(n, deeds[self.steps], self.givens, self.contents)
        self.steps += 1
        return True

    def back(self):
        """Undoes the last deed that is done: True, or False where there is none."""
        n, deeds = self.program[0], self.program[3]
        if self.steps == 0:
            return False
        self.steps -= 1
        self.contents = done(n, deed_back(n, deeds[self.steps]), self.givens, self.contents)
        return True

    def go_to(self, many):
        """Goes forth or back until so many deeds are done."""
        # Counted ahead, so that a number beyond the deeds ends at the last one.
        for turn in range(self.steps, many):
            self.forth()
        for turn in range(many, self.steps):
            self.back()

    def gone(self):
        """How many deeds are done."""
        return self.steps

    def lying(self):
        """What lies on the shelves now."""
        return self.contents
