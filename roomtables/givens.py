"""Givens: made of a program and a dict, or refused."""

from roomtables.errors import NoGiven
from roomtables.parts import is_lettered, is_tuple, is_whole

MOST_THINGS = 12


def given_of(program, things):
    """The given of a program that these things are; NoGiven where they are none."""
    needs = program[0]
    # As many things as needs, and a thing for each need: so there are no others.
    if not isinstance(things, dict) or len(things) != len(needs):
        raise NoGiven("there is not just one thing for each need")
    given = {}
    for name, kind in needs:
        if name not in things or not is_of_kind(things[name], kind):
            raise NoGiven(f"there is no {kind} for the need {name}")
        given[name] = copied(things[name])
    return given


def is_of_kind(thing, kind):
    """Whether a thing is of the kind of a need."""
    if kind == "number":
        return is_whole(thing)
    if kind == "row":
        return isinstance(thing, list) and len(thing) <= MOST_THINGS and all(is_whole(one) for one in thing)
    if kind == "text":
        return is_lettered(thing) and len(thing) <= MOST_THINGS
    return is_tree(thing)


def is_tree(thing):
    """Whether a thing is a tree: the parents of its knots from 1 on."""
    if not is_tuple(thing, 0, MOST_THINGS - 1):
        return False
    for at, parent in enumerate(thing):
        if not is_whole(parent) or not 0 <= parent <= at:
            return False
    return True


def copied(thing):
    """A thing of a need that the asker cannot change any more."""
    return list(thing) if isinstance(thing, list) else thing
