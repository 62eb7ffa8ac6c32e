"""Cells: how far their numbers go, and whether a thing is one."""

from roomtables.errors import NoCell
from roomtables.parts import is_tuple, is_whole
from roomtables.sums import worth


def mosts_of(program, given):
    """What the mosts of each function come to, a tuple for each."""
    told = []
    for name, mosts, body in program[1]:
        told.append(tuple([worth(most, given, []) for most in mosts]))
    return told


def is_cell(program, given, thing):
    """Whether a thing is a cell."""
    return is_within(mosts_of(program, given), thing)


def check_cell(program, given, ask):
    """Refuses an ask that is no cell."""
    if not is_cell(program, given, ask):
        raise NoCell("the ask is no cell")


def is_within(mosts, thing):
    """Whether a thing is a cell by what the mosts come to."""
    if not is_tuple(thing, 2, 2):
        return False
    function, args = thing
    if not is_whole(function) or not 0 <= function < len(mosts):
        return False
    ends = mosts[function]
    if not is_tuple(args, len(ends), len(ends)):
        return False
    for arg, end in zip(args, ends):
        # A most with a fault (a need of more than sixty figures) has no worth, so there is nothing up to it.
        if not is_whole(arg) or isinstance(end, str) or not 0 <= arg <= end:
            return False
    return True
