"""The tables: the worths of all that an ask hangs on, each reckoned once."""

from roomtables.orders import steps_in_order
from roomtables.readings import step_worth


def answer(program, given, ask, word):
    """The worth of an ask by a word, or its fault."""
    return worths_by(steps_in_order(program, given, ask), word)[ask]


def table(program, given, ask, word):
    """The worths of all wanted cells, each behind its cell, sorted by cells."""
    known = worths_by(steps_in_order(program, given, ask), word)
    return [(cell, known[cell]) for cell in sorted(known)]


def worths_by(steps, word):
    """The worths of cells by their readings, which stand in an order."""
    known = {}
    for cell in steps:
        known[cell] = step_worth(steps[cell], word, lambda called: known[called])
    return known
