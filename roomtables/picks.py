"""Picks: the choices by which a cell's body is gone through, and what they lead to."""

from roomtables.parts import is_whole
from roomtables.readings import reading


class Trail:
    """A way through a reading: the picks that are left, the last one first, and the cells and gains that are met."""

    def __init__(self, picks):
        self.left = list(reversed(picks))
        self.met = []
        self.gains = []

    def leads(self, step):
        """Goes through a step; whether the picks are right so far."""
        first = first_pick(step)
        if first is not None:
            return self.leads_on(step, first)
        if step.word == "gain":
            self.gains.append(step.thing)
        if step.word == "call":
            number, called = step.thing
            self.met.append(called)
        for part in step.parts:
            if not self.leads(part):
                return False
        return step.word != "none"

    def leads_on(self, step, first):
        """Goes through the part that the next pick tells, first being the pick of the first one."""
        pick = self.left.pop() if self.left != [] else None
        if not is_whole(pick) or not first <= pick < first + len(step.parts):
            return False
        return self.leads(step.parts[pick - first])


def first_pick(step):
    """The pick that leads to the first part of a step, None of a step at which no pick is due."""
    if step.word == "choose":
        return 0
    return step.thing if step.word == "each" else None


def led(program, given, cell, picks):
    """The cells and the gains that picks lead to, two lists, or None where the picks aren't right."""
    return led_through(reading(program, given, cell), picks)


def led_through(step, picks):
    """What picks lead to in a reading, or None."""
    if not isinstance(picks, tuple):
        return None
    trail = Trail(picks)
    if not trail.leads(step) or trail.left != []:
        return None
    return (trail.met, trail.gains)
