"""Sums: what they come to by a given and own numbers, and whether a thing is one."""

from roomtables.parts import LETTERS, is_whole, parts_in, word_of

# The least number of more than sixty figures.
BOUND = 10 ** 60

LAST_BIT = 12

LENGTHS = {
    "num": 2, "own": 2, "need": 2, "size": 2, "at": 3, "kids": 3, "kid": 4,
    "full": 2, "with": 3, "without": 3, "many": 2,
    "plus": 3, "less": 3, "times": 3, "half": 2, "rest": 3, "lesser": 3, "greater": 3,
}

# The kinds of need that a word with a need's name speaks of.
KINDS = {
    "need": ("number",),
    "size": ("row", "text", "tree"),
    "at": ("row", "text"),
    "kids": ("tree",),
    "kid": ("tree",),
}


def itself(number):
    """The number of a need."""
    return number


def size(thing):
    """The size of a row, a text or a tree."""
    # A tree is the tuple of its parents, and knot 0 has none.
    return len(thing) + 1 if isinstance(thing, tuple) else len(thing)


def number_at(thing, place):
    """The number at a place of a row or a text."""
    if not 0 <= place < len(thing):
        return "place"
    return LETTERS.index(thing[place]) if isinstance(thing, str) else thing[place]


def children(tree, knot):
    """The children of a knot, the lesser ones first."""
    return [at + 1 for at, parent in enumerate(tree) if parent == knot]


def kids(tree, knot):
    """How many children a knot has."""
    return len(children(tree, knot)) if 0 <= knot < size(tree) else "place"


def kid(tree, knot, place):
    """The child of a knot at a place among its children."""
    # A knot that is not there is nobody's parent, so it needs no test of its own.
    found = children(tree, knot)
    return found[place] if 0 <= place < len(found) else "place"


def is_set_and_bit(bits, bit):
    """Whether two numbers can be a set and a bit of it."""
    return bits >= 0 and 0 <= bit <= LAST_BIT


def full(many):
    """The set of the first so many bits."""
    return (1 << many) - 1 if 0 <= many <= LAST_BIT else "place"


def with_bit(bits, bit):
    """A set with a bit."""
    return bits | (1 << bit) if is_set_and_bit(bits, bit) else "place"


def without_bit(bits, bit):
    """A set without a bit."""
    return (bits | (1 << bit)) - (1 << bit) if is_set_and_bit(bits, bit) else "place"


def has_bit(bits, bit):
    """Whether a set has a bit."""
    return (bits >> bit) & 1 == 1 if is_set_and_bit(bits, bit) else "place"


def many_bits(bits):
    """How many bits a set has."""
    if bits < 0:
        return "place"
    many = 0
    while bits > 0:
        many += bits & 1
        bits = bits >> 1
    return many


def plus(one, other):
    """Two numbers added."""
    return one + other


def less(one, other):
    """A number less another."""
    return one - other


def times(one, other):
    """Two numbers multiplied."""
    return one * other


def half(number):
    """The greatest number whose double is no more than this one."""
    return number // 2


def rest(number, by):
    """What is left of a number by another."""
    return number % by if by >= 1 else "nought"


def lesser(one, other):
    """The lesser of two numbers."""
    return min(one, other)


def greater(one, other):
    """The greater of two numbers."""
    return max(one, other)


OF_NEEDS = {"need": itself, "size": size, "at": number_at, "kids": kids, "kid": kid}

OF_NUMBERS = {
    "full": full, "with": with_bit, "without": without_bit, "many": many_bits,
    "plus": plus, "less": less, "times": times, "half": half, "rest": rest,
    "lesser": lesser, "greater": greater,
}


def worth(one, given, own):
    """The number that a sum comes to, or its fault."""
    numbers = worths(parts_in(one), given, own)
    if isinstance(numbers, str):
        return numbers
    told = reckoned(one, numbers, given, own)
    if isinstance(told, int) and abs(told) >= BOUND:
        return "great"
    return told


def worths(sums, given, own):
    """The numbers that sums come to, a list, or the first fault among them."""
    numbers = []
    for one in sums:
        number = worth(one, given, own)
        if isinstance(number, str):
            return number
        numbers.append(number)
    return numbers


def reckoned(one, numbers, given, own):
    """What a sum comes to by the numbers of its parts, as great as it is."""
    word = one[0]
    if word == "num":
        return one[1]
    if word == "own":
        return own[one[1]]
    if word in OF_NEEDS:
        thing = given[one[1]]
        of_need = OF_NEEDS[word]
        return of_need(thing, *numbers)
    of_numbers = OF_NUMBERS[word]
    return of_numbers(*numbers)


def kind_of(name, needs):
    """The kind of the need with this name, None where there is none."""
    if isinstance(name, str):
        for need, kind in needs:
            if need == name:
                return kind
    return None


def is_sum(thing, needs, many):
    """Whether a thing is a sum by these needs and so many own numbers."""
    word = word_of(thing)
    if word not in LENGTHS or len(thing) != LENGTHS[word]:
        return False
    if word == "num":
        return is_whole(thing[1])
    if word == "own":
        return is_whole(thing[1]) and 0 <= thing[1] < many
    if word in KINDS and kind_of(thing[1], needs) not in KINDS[word]:
        return False
    for part in parts_in(thing):
        if not is_sum(part, needs, many):
            return False
    return True
