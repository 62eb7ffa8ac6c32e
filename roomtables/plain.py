"""The plain runner: each called cell is read anew, where its call stands."""

from roomtables.cells import check_cell
from roomtables.errors import TooLong
from roomtables.readings import Readings, step_worth

MOST_READ = 3000
MOST_WITHIN = 20


class Runner:
    """A plain run by a word, with how many cells it has read and how many it is within."""

    def __init__(self, readings, word):
        # What a cell's reading comes to is the same each time, so it is kept; its calls are run anew.
        self.readings = readings
        self.by = word
        self.many = 0
        self.within = 0

    def run(self, cell):
        """The worth of a cell, or the first fault met."""
        if self.many == MOST_READ or self.within == MOST_WITHIN:
            raise TooLong("the plain runner would read too many cells")
        self.many += 1
        self.within += 1
        told = step_worth(self.readings.of(cell), self.by, lambda called: self.run(called))
        self.within -= 1
        return told


def plain(program, given, ask, word):
    """The worth of an ask by a word, reckoned without tables, or the first fault met."""
    check_cell(program, given, ask)
    return Runner(Readings(program, given), word).run(ask)
