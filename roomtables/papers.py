"""Papers told: all wanted cells by rank, with rooms by a plan, and the rule that needs the fewest rooms."""

from roomtables.errors import NoRule
from roomtables.orders import steps_in_order, wants_by
from roomtables.rules import is_right_by, rank, rules
from roomtables.tables import worths_by


def paper_of(program, given, ask, word, rule, plan):
    """The paper of an ask by a word, a rule and a plan."""
    steps = steps_in_order(program, given, ask)
    hangs = wants_by(steps)
    if not is_right_by(hangs, rule):
        raise NoRule("the rule is not right for the ask")
    row = ranked(hangs, rule)
    told = rooms_of(row, hangs, ask, bounds_by(plan, row, rule))
    known = worths_by(steps, word)
    return [(cell, room, known[cell]) for cell, room in zip(row, told)]


def fewest(program, given, ask):
    """The first right rule whose tight paper has the least number of rooms, and that number."""
    hangs = wants_by(steps_in_order(program, given, ask))
    found = []
    for rule in rules():
        if is_right_by(hangs, rule):
            row = ranked(hangs, rule)
            # Rooms are numbered from 0 without gaps, as each row has the least one.
            found.append((rule, max(rooms_of(row, hangs, ask, bounds_by("tight", row, rule))) + 1))
    if found == []:
        raise NoRule("no rule is right for the ask")
    return min(found, key=lambda one: one[1])


def ranked(hangs, rule):
    """The cells by their ranks, alike ones by their args."""
    return sorted(hangs, key=lambda cell: (rank(rule, cell), cell[1]))


def bounds_by(plan, row, rule):
    """For each cell of a row a place, by a plan: rooms whose cells are not wanted behind that place are free to it."""
    if plan == "all":
        return [-1 for cell in row]
    if plan == "tight":
        return list(range(len(row)))
    layers = [rank(rule, cell)[0] for cell in row]
    # The cells of a layer stand side by side, so it begins where it is first met.
    return [layers.index(layer) - 1 for layer in layers]


def rooms_of(row, hangs, ask, bounds):
    """The least free room for each cell of a row, one by one."""
    last = last_places(row, hangs, ask)
    ends = []
    told = []
    for cell, bound in zip(row, bounds):
        room = first_free(ends, bound)
        if room == len(ends):
            ends.append(0)
        ends[room] = last[cell]
        told.append(room)
    return told


def last_places(row, hangs, ask):
    """The last place of a row at which each cell is wanted; the ask is behind all."""
    last = {}
    for place, cell in enumerate(row):
        for want in hangs[cell]:
            last[want] = place
    last[ask] = len(row)
    return last


def first_free(ends, bound):
    """The least room that holds nothing that is wanted behind a place, by the last places of what the rooms hold."""
    for room, end in enumerate(ends):
        if end <= bound:
            return room
    return len(ends)
