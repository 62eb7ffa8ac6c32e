"""What the stages share: whole numbers, small letters, and the parts of sums, conditions and bodies."""

LETTERS = "abcdefghijklmnopqrstuvwxyz"

# Where the parts begin in those sums whose second thing is no part.
PARTS_FROM = {"num": 2, "own": 2, "need": 2, "size": 2, "at": 2, "kids": 2, "kid": 2}


def is_whole(thing):
    """Whether a thing is a whole number."""
    # For Python a truth is an int.
    return isinstance(thing, int) and not isinstance(thing, bool)


def is_lettered(thing):
    """Whether a thing is a text of small letters alone."""
    return isinstance(thing, str) and all(sign in LETTERS for sign in thing)


def is_tuple(thing, least, most):
    """Whether a thing is a tuple of at least so many and at most so many things."""
    return isinstance(thing, tuple) and least <= len(thing) <= most


def word_of(thing):
    """The word that a thing begins with, None where it is no tuple that begins with one."""
    if isinstance(thing, tuple) and len(thing) > 0 and isinstance(thing[0], str):
        return thing[0]
    return None


def parts_in(part):
    """The parts that stand directly in a sum, a condition or a body, from left to right."""
    if part[0] == "call" or part[0] == "choose":
        return part[-1]
    return part[PARTS_FROM.get(part[0], 1):]


def with_parts(part, inner):
    """A part with these in the place of the parts that stand directly in it."""
    if part[0] == "call" or part[0] == "choose":
        return part[:-1] + (tuple(inner),)
    return part[:PARTS_FROM.get(part[0], 1)] + tuple(inner)


def parts_many(part):
    """How many parts a part has, itself counted."""
    many = 1
    for inner in parts_in(part):
        many += parts_many(inner)
    return many


def depth(part):
    """How deep a part is, 1 where no part is in it."""
    deepest = 0
    for inner in parts_in(part):
        deepest = max(deepest, depth(inner))
    return deepest + 1
