"""Walks: all the single ways of an ask, each with a walk of each cell that it comes to."""

from roomtables.errors import TooLong
from roomtables.orders import sound_steps
from roomtables.picks import first_pick, led_through
from roomtables.readings import Readings

MOST_WALKS = 300
MOST_ROWS = 60


class Tally:
    """How many ways lead through a step, and the most rows that the walks of one way have.

    The ways are counted up to one too many. The parts are the tallies of the step's parts.
    """

    def __init__(self, step, many, rows, parts):
        self.step = step
        self.many = many
        self.rows = rows
        self.parts = parts


def walks(program, given, ask):
    """All walks of an ask, sorted."""
    steps = sound_steps(program, given, ask)
    # All is counted ahead, so that nothing is gone through that would be too long.
    tallies = tallies_of(steps)
    told = {}
    for cell in tallies:
        ways = ways_through(tallies[cell], told)
        told[cell] = sorted([(cell, picks, inner) for picks, inner in ways])
    return told[ask]


def tallies_of(steps):
    """The tallies of cells by their readings, which stand in an order; TooLong is refused."""
    tallies = {}
    for cell in steps:
        one = tally_of(steps[cell], tallies)
        if one.many > MOST_WALKS or (one.many > 0 and one.rows >= MOST_ROWS):
            raise TooLong("a wanted cell has too many walks, or too long ones")
        tallies[cell] = one
    return tallies


def tally_of(step, tallies):
    """The tally of a step by those of the cells that it calls."""
    if step.word == "call":
        number, called = step.thing
        return Tally(step, tallies[called].many, tallies[called].rows + 1, [])
    parts = [tally_of(part, tallies) for part in step.parts]
    if first_pick(step) is not None:
        many = sum([part.many for part in parts])
        rows = max([part.rows for part in parts if part.many > 0], default=0)
    else:
        many = 0 if step.word == "none" else product([part.many for part in parts])
        rows = sum([part.rows for part in parts])
    # What is one too many stays too many whatever it is put together with, but for what has no way.
    return Tally(step, min(many, MOST_WALKS + 1), rows, parts)


def product(numbers):
    """The product of numbers, 1 of none."""
    told = 1
    for number in numbers:
        told = told * number
    return told


def ways_through(tally, told):
    """All ways through a step, each its picks and its walks, by the walks of the cells that it calls."""
    # What has no way as a whole may have parts with very many.
    if tally.many == 0:
        return []
    if tally.step.word == "call":
        number, called = tally.step.thing
        return [((), (walk,)) for walk in told[called]]
    inner = [ways_through(part, told) for part in tally.parts]
    first = first_pick(tally.step)
    if first is not None:
        return [((first + at,) + picks, more) for at, ways in enumerate(inner) for picks, more in ways]
    joined = [((), ())]
    for ways in inner:
        joined = [(one[0] + other[0], one[1] + other[1]) for one in joined for other in ways]
    return joined


def walk_worth(program, given, walk):
    """The sum of the gains of all rows of a walk."""
    return sum(gains_of(Readings(program, given), walk))


def walk_product(program, given, walk):
    """The product of the gains of all rows of a walk."""
    return product(gains_of(Readings(program, given), walk))


def gains_of(readings, walk):
    """The gains of all rows of a walk."""
    cell, picks, inner = walk
    gains = led_through(readings.of(cell), picks)[1]
    for one in inner:
        gains.extend(gains_of(readings, one))
    return gains
