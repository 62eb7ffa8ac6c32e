"""Lines: how far a call's numbers can be above the reading cell's, and the rules that are sure of a program by that."""

from roomtables.parts import parts_in
from roomtables.rules import rules


class Call:
    """A call as it stands in a function with so many places: what it calls, its args, and the turns around it.

    The turns are pairs of low and high, the outermost one first; their own numbers come behind the places.
    """

    def __init__(self, places, called, sums, turns):
        self.places = places
        self.called = called
        self.sums = sums
        self.turns = turns


def calls_of(program):
    """The calls of a program: the number of each one's function, its own number, and that of the called function."""
    told = []
    for function, standing in enumerate(calls_standing(program)):
        for number, one in enumerate(standing):
            told.append((function, number, one.called))
    return told


def calls_standing(program):
    """The calls of each function's body, as they stand in it."""
    return [calls_within(body, len(mosts), []) for name, mosts, body in program[1]]


def calls_within(part, places, turns):
    """The calls that stand in a part of a body, which stands within these turns."""
    if part[0] == "call":
        return [Call(places, part[1], part[2], turns)]
    around = turns + [(part[1], part[2])] if part[0] == "each" or part[0] == "all" else turns
    found = []
    for inner in parts_in(part):
        found.extend(calls_within(inner, places, around))
    return found


def is_bare(one):
    """Whether a sum is written with num, plus, less and times alone."""
    if one[0] == "num":
        return True
    return one[0] in ("plus", "less", "times") and is_bare(one[1]) and is_bare(one[2])


def line_of(one, many):
    """A sum by so many own numbers as a line, None where it is none.

    A line is a list: the rest, and then the factor of each own number.
    """
    word = one[0]
    if word == "num":
        return [one[1]] + [0] * many
    if word == "own":
        return own_line(one[1], many)
    if word not in ("plus", "less", "times"):
        return None
    left, right = line_of(one[1], many), line_of(one[2], many)
    if left is None or right is None:
        return None
    if word == "times":
        return multiplied(one, left, right)
    return added(left, right, 1 if word == "plus" else -1)


def multiplied(one, left, right):
    """The line of a times whose sides are these lines, None where neither side is bare."""
    if is_bare(one[1]):
        return often(right, left[0])
    return often(left, right[0]) if is_bare(one[2]) else None


def own_line(own, many):
    """An own number as a line by so many own numbers."""
    return [1 if place == own + 1 else 0 for place in range(many + 1)]


def often(line, many):
    """A line taken so often."""
    return [number * many for number in line]


def added(line, other, many):
    """A line with another one added so often."""
    return [one + more for one, more in zip(line, often(other, many))]


def greatest(line, call):
    """The greatest that a line comes to where a call stands, or None."""
    many = len(line) - 1
    for turn in reversed(range(len(call.turns))):
        own = call.places + turn
        factor = line[own + 1]
        if factor != 0:
            low, high = call.turns[turn]
            end = line_of(high if factor > 0 else low, many)
            if end is None:
                return None
            line = added(added(line, own_line(own, many), -factor), end, factor)
    return line[0] if line[1:] == [0] * many else None


def gap(program, f, n, key):
    """The most by which the called cell's number by a key is above the reading cell's, None where that isn't known."""
    return gap_of(calls_standing(program)[f][n], key)


def gap_of(call, key):
    """The gap of a call by a key."""
    word, place = key
    if word == "bits":
        return bits_gap(call, place)
    line = gap_line(call, word, place)
    return None if line is None else greatest(line, call)


def gap_line(call, word, place):
    """The called cell's number less the reading cell's, by a key that isn't of bits, as a line, or None."""
    line = rise(call, place)
    if line is None or word == "up":
        return line
    if word == "down":
        return often(line, -1)
    above = rise(call, place + 1)
    return None if above is None else added(above, line, -1)


def rise(call, place):
    """The called cell's number at a place less the reading cell's, as a line, or None."""
    many = call.places + len(call.turns)
    line = line_of(call.sums[place], many) if place < len(call.sums) else [0] * (many + 1)
    if line is None or place >= call.places:
        return line
    return added(line, own_line(place, many), -1)


def bits_gap(call, place):
    """The gap of a call by the bits at a place."""
    if place >= len(call.sums):
        return 0
    one = call.sums[place]
    while one[0] == "without":
        one = one[1]
    return 0 if place < call.places and one == ("own", place) else None


def is_sure(program, rule):
    """Whether a rule is sure of a program: right, as the calls are written, for each ask at each given."""
    return is_sure_by(calls_standing(program), rule)


def sure_rules(program):
    """All rules that are sure of a program, in their order."""
    standing = calls_standing(program)
    return [rule for rule in rules() if is_sure_by(standing, rule)]


def is_sure_by(standing, rule):
    """Whether a rule is sure of all calls, which stand function by function."""
    for function, calls in enumerate(standing):
        for call in calls:
            if not is_falling(call, function, rule):
                return False
    return True


def is_falling(call, function, rule):
    """Whether a call of this function leads to a lesser rank by a rule, whatever the numbers are."""
    for key in rule:
        most = gap_of(call, key)
        if most != 0:
            return most is not None and most < 0
    return call.called < function
