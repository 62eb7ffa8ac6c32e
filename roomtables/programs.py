"""Programs: made of needs and functions, or refused."""

from roomtables.conds import is_cond
from roomtables.errors import NoProgram
from roomtables.parts import depth, is_lettered, is_tuple, is_whole, parts_in, parts_many, word_of
from roomtables.sums import is_sum

KINDS = ("number", "row", "text", "tree")

BARRED = (
    "num", "own", "need", "size", "at", "kids", "kid", "full", "with", "without", "many",
    "plus", "less", "times", "half", "rest", "lesser", "greater",
    "below", "same", "has", "not", "and", "or",
    "gain", "none", "call", "both", "choose", "each", "all", "if",
    "number", "row", "text", "tree",
)

LENGTHS = {"gain": 2, "none": 1, "call": 3, "both": 3, "choose": 2, "each": 4, "all": 4, "if": 4}

MOST_NEEDS = 6
MOST_FUNCTIONS = 4
MOST_PLACES = 3
MOST_BODIES = 4
PARTS_OF_A_MOST = 12
PARTS_OF_A_BODY = 60
DEPTH_OF_A_BODY = 12


def program_of(needs, functions):
    """The program of these needs and functions; NoProgram where they make none."""
    if not are_needs(needs):
        raise NoProgram("the needs are none")
    if not are_functions(functions, needs):
        raise NoProgram("the functions are none by these needs")
    return (needs, functions)


def is_name(thing):
    """Whether a thing is a name, of a need or a function."""
    return is_lettered(thing) and 2 <= len(thing) <= 8 and thing not in BARRED


def are_unlike(names):
    """Whether no name stands twice in a list."""
    return len(set(names)) == len(names)


def are_needs(thing):
    """Whether a thing is the needs of a program."""
    if not is_tuple(thing, 0, MOST_NEEDS):
        return False
    for need in thing:
        if not is_tuple(need, 2, 2) or not is_name(need[0]):
            return False
        if not isinstance(need[1], str) or need[1] not in KINDS:
            return False
    return are_unlike([need[0] for need in thing])


def are_functions(thing, needs):
    """Whether a thing is the functions of a program with these needs."""
    if not is_tuple(thing, 1, MOST_FUNCTIONS):
        return False
    for function in thing:
        if not is_tuple(function, 3, 3) or not is_name(function[0]) or not are_mosts(function[1], needs):
            return False
    if not are_unlike([need[0] for need in needs] + [function[0] for function in thing]):
        return False
    # A call may be of a function behind it, so all mosts are counted ahead of the bodies.
    counts = [len(function[1]) for function in thing]
    for function in thing:
        if not is_whole_body(function[2], needs, counts, len(function[1])):
            return False
    return True


def are_mosts(thing, needs):
    """Whether a thing is the mosts of a function."""
    if not is_tuple(thing, 1, MOST_PLACES):
        return False
    for most in thing:
        if not is_sum(most, needs, 0) or not is_of_most_words(most) or parts_many(most) > PARTS_OF_A_MOST:
            return False
    return True


def is_of_most_words(one):
    """Whether a sum is made of what mosts are made of."""
    word = one[0]
    if word == "num":
        return one[1] >= 0
    if word == "full":
        return one[1][0] == "size"
    if word == "plus" or word == "less":
        return is_of_most_words(one[1]) and is_of_most_words(one[2])
    return word == "need" or word == "size"


def is_whole_body(thing, needs, counts, many):
    """Whether a thing is the body of a function with so many mosts."""
    if not is_body(thing, needs, counts, many, 0):
        return False
    return parts_many(thing) <= PARTS_OF_A_BODY and depth(thing) <= DEPTH_OF_A_BODY


def is_body(thing, needs, counts, many, turns):
    """Whether a thing is a body, of any size, by so many own numbers and within so many turns."""
    word = word_of(thing)
    if word not in LENGTHS or len(thing) != LENGTHS[word]:
        return False
    if word == "gain":
        return is_sum(thing[1], needs, many)
    if word == "call":
        return is_call(thing, needs, counts, many)
    if word == "each" or word == "all":
        return is_turn(thing, needs, counts, many, turns)
    if word == "choose" and not is_tuple(thing[1], 1, MOST_BODIES):
        return False
    if word == "if" and not is_cond(thing[1], needs, many):
        return False
    bodies = thing[2:] if word == "if" else parts_in(thing)
    for body in bodies:
        if not is_body(body, needs, counts, many, turns):
            return False
    return True


def is_call(thing, needs, counts, many):
    """Whether a tuple that begins as a call is one."""
    function, args = thing[1], thing[2]
    if not is_whole(function) or not 0 <= function < len(counts):
        return False
    if not is_tuple(args, counts[function], counts[function]):
        return False
    for arg in args:
        if not is_sum(arg, needs, many):
            return False
    return True


def is_turn(thing, needs, counts, many, turns):
    """Whether a tuple that begins as an each or an all is one."""
    if turns > 1 or not is_sum(thing[1], needs, many) or not is_sum(thing[2], needs, many):
        return False
    return is_body(thing[3], needs, counts, many + 1, turns + 1)
