"""Rules: the ranks of cells by keys, and whether each wanted cell has a greater one than its wants."""

from roomtables.orders import steps_of, wants_by
from roomtables.sums import many_bits

KEYS = (
    ("up", 0), ("up", 1), ("up", 2), ("down", 0), ("down", 1), ("down", 2),
    ("wide", 0), ("wide", 1), ("bits", 0), ("bits", 1), ("bits", 2),
)


def rules():
    """All rules, in their order."""
    told = [()]
    told.extend([(key,) for key in KEYS])
    told.extend([(first, second) for first in KEYS for second in KEYS if first != second])
    return told


def rank(rule, cell):
    """The rank of a cell by a rule: its numbers by the keys, and its function's number."""
    function, args = cell
    return tuple([number_by(key, args) for key in rule]) + (function,)


def number_by(key, args):
    """A cell's number by a key."""
    word, place = key
    if word == "up":
        return at(args, place)
    if word == "down":
        return -at(args, place)
    if word == "wide":
        return at(args, place + 1) - at(args, place)
    return many_bits(at(args, place))


def at(args, place):
    """The number at a place of args, 0 where they have no such place."""
    return args[place] if place < len(args) else 0


def is_right(program, given, ask, rule):
    """Whether each wanted cell has a greater rank by a rule than each of its wants."""
    return is_right_by(wants_by(steps_of(program, given, ask)), rule)


def right_rules(program, given, ask):
    """All rules that are right for an ask, in their order."""
    hangs = wants_by(steps_of(program, given, ask))
    return [rule for rule in rules() if is_right_by(hangs, rule)]


def is_right_by(hangs, rule):
    """Whether a rule is right for cells by their wants."""
    ranks = {cell: rank(rule, cell) for cell in hangs}
    for cell in hangs:
        for want in hangs[cell]:
            if ranks[want] >= ranks[cell]:
                return False
    return True
