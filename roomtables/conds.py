"""Conditions: whether they hold by a given and own numbers, and whether a thing is one."""

from roomtables.parts import parts_in, word_of
from roomtables.sums import has_bit, is_sum, worths

LENGTHS = {"below": 3, "same": 3, "has": 3, "not": 2, "and": 3, "or": 3}

# The words whose parts are sums; those of the others are conditions.
OF_SUMS = ("below", "same", "has")


def compared(word, one, other):
    """Whether a condition of two sums holds by their numbers, or its fault."""
    if word == "below":
        return one < other
    if word == "same":
        return one == other
    return has_bit(one, other)


def joined(word, truths):
    """Whether a condition of conditions holds by their truths."""
    if word == "not":
        return not truths[0]
    if word == "and":
        return truths[0] and truths[1]
    return truths[0] or truths[1]


def holds(cond, given, own):
    """Whether a condition holds, or its fault."""
    word = cond[0]
    if word in OF_SUMS:
        numbers = worths(parts_in(cond), given, own)
        return numbers if isinstance(numbers, str) else compared(word, numbers[0], numbers[1])
    truths = []
    # All parts are reckoned, whatever the first ones come to: a fault behind them counts.
    for part in parts_in(cond):
        truth = holds(part, given, own)
        if isinstance(truth, str):
            return truth
        truths.append(truth)
    return joined(word, truths)


def is_cond(thing, needs, many):
    """Whether a thing is a condition by these needs and so many own numbers."""
    word = word_of(thing)
    if word not in LENGTHS or len(thing) != LENGTHS[word]:
        return False
    for part in parts_in(thing):
        right = is_sum(part, needs, many) if word in OF_SUMS else is_cond(part, needs, many)
        if not right:
            return False
    return True
