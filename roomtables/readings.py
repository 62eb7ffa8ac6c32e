"""Readings of cells: the calls come to, the wants, the fault that ends them, and the worth that they make."""

from roomtables.cells import is_within, mosts_of
from roomtables.conds import holds
from roomtables.parts import parts_in
from roomtables.sums import worth, worths
from roomtables.words import both, either, gain, nothing, whole

MOST_TURNS = 16

# Where the bodies within a body begin; those of a choose stand in a tuple of their own.
BODIES_FROM = {"gain": 2, "none": 1, "both": 1, "each": 3, "all": 3, "if": 2}

# The words whose first part is put together with nothing ahead of it.
FROM_THE_FIRST = ("both", "choose")


class Step:
    """What a body comes to in a reading.

    The word is the body's, or "fault" where the reading ends; an if is the part of it that is due. The thing is the
    number of a gain, of a call its number and its cell, of an each and an all the first turn. The parts are the steps
    within, as far as they are read. The fault is the one that ends the reading within, or None.
    """

    def __init__(self, word, thing, parts, fault):
        self.word = word
        self.thing = thing
        self.parts = parts
        self.fault = fault


class Readings:
    """The readings of a program's cells by a given, each made once."""

    def __init__(self, program, given):
        self.bodies = [numbered(function[2], 0) for function in program[1]]
        self.given = given
        self.mosts = mosts_of(program, given)
        self.made = {}

    def of(self, cell):
        """The reading of a cell, as the step that its function's body comes to."""
        if cell not in self.made:
            function, args = cell
            self.made[cell] = read(self.bodies[function], list(args), self.given, self.mosts)
        return self.made[cell]


def calls(program, given, cell):
    """The calls that a cell's reading comes to: the number and the cell of each."""
    return calls_in(reading(program, given, cell))


def wants(program, given, cell):
    """The cells that a cell's reading calls, each once, in the order of first coming."""
    return wants_in(reading(program, given, cell))


def fault_of(program, given, cell):
    """The fault that ends a cell's reading, or None."""
    return reading(program, given, cell).fault


def cell_worth(program, given, cell, word, known):
    """A cell's worth by a word and the worths of its wants."""
    return step_worth(reading(program, given, cell), word, lambda called: known[called])


def reading(program, given, cell):
    """The reading of one cell."""
    return Readings(program, given).of(cell)


def calls_many(part):
    """How many calls stand in a part."""
    many = 1 if part[0] == "call" else 0
    for inner in parts_in(part):
        many += calls_many(inner)
    return many


def numbered(body, first):
    """A body with its calls' numbers, from first on, each put behind the args of its call."""
    # They are put there ahead of the reading, as it leaves parts out and comes to others more than once.
    word = body[0]
    if word == "call":
        return (*body, first)
    if word == "choose":
        return (word, numbered_all(body[1], first))
    start = BODIES_FROM[word]
    return body[:start] + numbered_all(body[start:], first)


def numbered_all(bodies, first):
    """Bodies that stand side by side with their calls' numbers."""
    told = []
    for body in bodies:
        told.append(numbered(body, first))
        first += calls_many(body)
    return tuple(told)


def read(body, own, given, mosts):
    """The step that a numbered body comes to by these own numbers."""
    word = body[0]
    if word == "gain":
        number = worth(body[1], given, own)
        return ended(number) if isinstance(number, str) else Step(word, number, [], None)
    if word == "call":
        return read_call(body, own, given, mosts)
    if word == "if":
        truth = holds(body[1], given, own)
        if isinstance(truth, str):
            return ended(truth)
        return read(body[2] if truth else body[3], own, given, mosts)
    if word == "each" or word == "all":
        return read_turns(body, own, given, mosts)
    return read_all(word, None, [(part, own) for part in parts_in(body)], given, mosts)


def ended(fault):
    """The step where a reading ends."""
    return Step("fault", None, [], fault)


def read_call(body, own, given, mosts):
    """The step that a call comes to."""
    word, function, args, number = body
    numbers = worths(args, given, own)
    if isinstance(numbers, str):
        return ended(numbers)
    called = (function, tuple(numbers))
    if not is_within(mosts, called):
        return ended("beyond")
    return Step(word, (number, called), [], None)


def read_turns(body, own, given, mosts):
    """The step that an each or an all comes to."""
    word, low, high, inner = body
    numbers = worths((low, high), given, own)
    if isinstance(numbers, str):
        return ended(numbers)
    first, last = numbers
    if last - first >= MOST_TURNS:
        return ended("wide")
    return read_all(word, first, [(inner, own + [turn]) for turn in range(first, last + 1)], given, mosts)


def read_all(word, thing, due, given, mosts):
    """The step of bodies that are read one by one, each with its own numbers, until the reading ends."""
    steps = []
    for body, own in due:
        steps.append(read(body, own, given, mosts))
        if steps[-1].fault is not None:
            return Step(word, thing, steps, steps[-1].fault)
    return Step(word, thing, steps, None)


def calls_in(step):
    """The calls within a step, in order."""
    found = [step.thing] if step.word == "call" else []
    for part in step.parts:
        found.extend(calls_in(part))
    return found


def wants_in(step):
    """The cells that are called within a step, each once, in the order of first coming."""
    found = {}
    for number, called in calls_in(step):
        found[called] = True
    return list(found)


def step_worth(step, word, worth_of):
    """The worth of a step, or the first fault met in it; worth_of tells the worth of a called cell."""
    if step.word == "call":
        number, called = step.thing
        return worth_of(called)
    held = worth_ahead(step, word)
    for at, part in enumerate(step.parts):
        one = step_worth(part, word, worth_of)
        if isinstance(one, str):
            return one
        held = one if at == 0 and step.word in FROM_THE_FIRST else put_together(step.word, word, held, one)
        if isinstance(held, str):
            return held
    return held


def worth_ahead(step, word):
    """The worth that stands ahead of a step's parts, or that of a step without parts."""
    if step.word == "fault":
        return step.fault
    if step.word == "gain":
        return gain(word, step.thing)
    return whole(word) if step.word == "all" else nothing(word)


def put_together(kind, word, one, other):
    """Two worths put together as the parts of such a step are."""
    if kind == "both" or kind == "all":
        return both(word, one, other)
    return either(word, one, other)
