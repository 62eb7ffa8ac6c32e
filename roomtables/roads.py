"""Roads: for each cell that is come to the picks by which an ask's least or greatest worth is come to."""

from roomtables.cells import is_within, mosts_of
from roomtables.errors import NoRoad
from roomtables.orders import order_of, sound_steps, steps_in_order
from roomtables.parts import is_tuple
from roomtables.picks import first_pick, led_through
from roomtables.readings import Readings
from roomtables.tables import worths_by
from roomtables.words import chosen

# The words whose worths are those of single ways.
SINGLE = ("least", "greatest")


def road(program, given, ask, word):
    """The road of an ask by least or greatest, None where the ask has no way."""
    steps = steps_in_order(program, given, ask)
    if word not in SINGLE:
        raise NoRoad("a road is told by least or greatest alone")
    known = worths_by(steps, word)
    if isinstance(known[ask], str):
        raise NoRoad("the answer is a fault")
    return None if known[ask] is None else rows_from(ask, steps, known, word)


def rows_from(ask, steps, known, word):
    """The rows of an ask's road, by the readings and the answers of all wanted cells."""
    rows = []
    reached = {ask: True}
    due = [ask]
    while len(rows) < len(due):
        cell = due[len(rows)]
        picks = best_way(steps[cell], known, word)[1]
        rows.append((cell, picks))
        for called in led_through(steps[cell], picks)[0]:
            if called not in reached:
                reached[called] = True
                due.append(called)
    return rows


def best_way(step, known, word):
    """The worth of a step and the least picks that come to it, None where no way leads through it."""
    # No picks through a step begin with other ones through it, so the least of a part make the least of the whole.
    if step.word == "call":
        number, called = step.thing
        return None if known[called] is None else (known[called], ())
    ways = [best_way(part, known, word) for part in step.parts]
    first = first_pick(step)
    if first is not None:
        return picked_way(ways, first, word)
    if step.word == "none" or None in ways:
        return None
    told = step.thing if step.word == "gain" else 0
    picks = []
    for number, more in ways:
        told += number
        picks.extend(more)
    return (told, tuple(picks))


def picked_way(ways, first, word):
    """The first of the best of some ways, with its pick ahead, None where there are none."""
    best = None
    for at, way in enumerate(ways):
        if way is not None and (best is None or is_better(way[0], best[0], word)):
            best = (way[0], (first + at,) + way[1])
    return best


def is_better(one, other, word):
    """Whether a number is taken ahead of another one by a word."""
    return one != other and chosen(word, one, other) == one


def is_road(program, given, ask, thing):
    """Whether a thing is a road of an ask."""
    steps = sound_steps(program, given, ask)
    if not isinstance(thing, list):
        return False
    mosts = mosts_of(program, given)
    reached = {ask: True}
    gone = {}
    for row in thing:
        # Whether a thing is a cell is asked first: others may have no place among keys, or be the same as a cell there.
        if not is_tuple(row, 2, 2) or not is_within(mosts, row[0]):
            return False
        cell, picks = row
        ways = led_through(steps[cell], picks) if cell in reached and cell not in gone else None
        if ways is None:
            return False
        gone[cell] = True
        for called in ways[0]:
            reached[called] = True
    return len(gone) == len(reached)


def road_worth(program, given, one):
    """The worth of a road."""
    readings = Readings(program, given)
    ways = {cell: led_through(readings.of(cell), picks) for cell, picks in one}
    calls = {cell: [called for called in ways[cell][0] if called in ways] for cell in ways}
    hangs = {cell: list({called: True for called in calls[cell]}) for cell in calls}
    worths = {}
    # Each cell's worth is reckoned once, as it may be come to more often than can be counted through.
    for cell in order_of(hangs):
        worths[cell] = sum(ways[cell][1]) + sum([worths[called] for called in calls[cell]])
    return worths[one[0][0]]
