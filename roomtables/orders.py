"""What an ask hangs on: all the wanted cells, and an order of them or a ring."""

from roomtables.cells import check_cell
from roomtables.errors import NoRoad, Ring, TooGreat
from roomtables.readings import Readings, wants_in

MOST_WANTED = 200


def wanted(program, given, ask):
    """The ask and all that it hangs on, sorted."""
    return list(steps_of(program, given, ask))


def order_or_ring(program, given, ask):
    """An order of all wanted cells, or a ring of some of them, behind the word that tells which."""
    hangs = wants_by(steps_of(program, given, ask))
    order = order_of(hangs)
    if len(order) == len(hangs):
        return ("order", order)
    return ("ring", ring_beside(hangs, order))


def steps_of(program, given, ask):
    """The readings of all wanted cells, by their cells, sorted; NoCell and TooGreat are refused."""
    check_cell(program, given, ask)
    readings = Readings(program, given)
    steps = {ask: readings.of(ask)}
    due = [ask]
    while due != []:
        step = steps[due.pop()]
        for want in wants_in(step):
            if want not in steps:
                steps[want] = readings.of(want)
                due.append(want)
        if len(steps) > MOST_WANTED:
            raise TooGreat("the ask hangs on too many cells")
    return {cell: steps[cell] for cell in sorted(steps)}


def steps_in_order(program, given, ask):
    """The readings of all wanted cells, by their cells, in an order; Ring is refused too."""
    steps = steps_of(program, given, ask)
    hangs = wants_by(steps)
    order = order_of(hangs)
    if len(order) < len(hangs):
        raise Ring(ring_beside(hangs, order))
    return {cell: steps[cell] for cell in order}


def sound_steps(program, given, ask):
    """The readings of all wanted cells, by their cells, in an order; NoRoad is refused too, where one has a fault."""
    steps = steps_in_order(program, given, ask)
    for cell in steps:
        if steps[cell].fault is not None:
            raise NoRoad("a wanted cell has a fault in its reading")
    return steps


def wants_by(steps):
    """The wants of each cell, by the readings of all."""
    return {cell: wants_in(steps[cell]) for cell in steps}


def order_of(hangs):
    """The cells, each behind all its wants, without those that a ring keeps from having a place."""
    waiting = {cell: len(hangs[cell]) for cell in hangs}
    askers = {cell: [] for cell in hangs}
    for cell in hangs:
        for want in hangs[cell]:
            askers[want].append(cell)
    order = [cell for cell in hangs if waiting[cell] == 0]
    at = 0
    while at < len(order):
        placed = order[at]
        for asker in askers[placed]:
            waiting[asker] -= 1
            if waiting[asker] == 0:
                order.append(asker)
        at += 1
    return order


def ring_beside(hangs, order):
    """A ring among the cells that have no place in the order."""
    placed = {cell: True for cell in order}
    cell = [one for one in hangs if one not in placed][0]
    trail = []
    # Each cell without a place wants such a one, so the trail goes on until it meets itself.
    while cell not in trail:
        trail.append(cell)
        cell = [want for want in hangs[cell] if want not in placed][0]
    return trail[trail.index(cell):]
