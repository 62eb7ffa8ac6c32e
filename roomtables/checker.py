"""Papers looked at: whether they are let by, what they tell, and how many rooms they have."""

from roomtables.cells import check_cell, is_within
from roomtables.parts import is_tuple, is_whole
from roomtables.readings import Readings, step_worth, wants_in

LAST_ROOM = 999


def lets_by(program, given, ask, word, paper):
    """Whether a thing is a paper that is let by for an ask and a word."""
    check_cell(program, given, ask)
    if not isinstance(paper, list):
        return False
    readings = Readings(program, given)
    held = {}
    for row in paper:
        if not is_row(row, readings.mosts):
            return False
        cell, room, told = row
        if not is_due(readings.of(cell), word, told, worths_held(held)):
            return False
        held[room] = (cell, told)
    return ask in worths_held(held)


def is_row(thing, mosts):
    """Whether a thing is a row of a paper with a cell by these mosts and a room, whatever its worth is."""
    if not is_tuple(thing, 3, 3):
        return False
    cell, room, told = thing
    return is_within(mosts, cell) and is_whole(room) and 0 <= room <= LAST_ROOM


def worths_held(held):
    """The worths of the cells that stand in rooms."""
    return {cell: told for cell, told in held.values()}


def is_due(step, word, told, known):
    """Whether a told thing is the worth of a reading all of whose wants are known."""
    for want in wants_in(step):
        if want not in known:
            return False
    return is_the_worth(told, step_worth(step, word, lambda called: known[called]))


def is_the_worth(thing, due):
    """Whether a thing is just the worth that is due."""
    # For Python a truth is the same as 1 or 0, in a pair too, so the kind is asked ahead of the number.
    if due is None:
        return thing is None
    if isinstance(due, str):
        return isinstance(thing, str) and thing == due
    if is_whole(due):
        return is_whole(thing) and thing == due
    return is_tuple(thing, 2, 2) and is_the_worth(thing[0], due[0]) and is_the_worth(thing[1], due[1])


def told_by(paper, ask):
    """The worth that a paper that is let by tells of its ask."""
    # In such a paper each row of a cell has the same worth.
    for cell, room, told in paper:
        if cell == ask:
            return told
    return None


def rooms(paper):
    """How many unlike rooms a paper has."""
    return len({room for cell, room, told in paper})
