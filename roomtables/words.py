"""The six ways of reckoning: their worths, and how two of them are put together."""

WORDS = ("least", "greatest", "ways", "sum", "leasts", "greatests")

# Those whose worths are multiplied and added.
COUNTED = ("ways", "sum")

# Those whose worths are pairs.
PAIRED = ("leasts", "greatests")

# Those that take the lesser number.
LESSER = ("least", "leasts")

# The least number of more than four hundred figures.
BOUND = (10 ** 50) ** 8


def nothing(word):
    """The worth of what has no way."""
    return 0 if word in COUNTED else None


def whole(word):
    """The worth that changes nothing."""
    if word in COUNTED:
        return 1
    return (0, 1) if word in PAIRED else 0


def gain(word, number):
    """The worth of a gain."""
    if word == "ways":
        return 1
    return (number, 1) if word in PAIRED else number


def both(word, one, other):
    """Two worths put together, where both are due."""
    if word in COUNTED:
        return kept(one * other)
    if one is None or other is None:
        return None
    if word in PAIRED:
        return kept((one[0] + other[0], one[1] * other[1]))
    return kept(one + other)


def either(word, one, other):
    """Two worths put together, where either is due."""
    if word in COUNTED:
        return kept(one + other)
    if one is None or other is None:
        return kept(other if one is None else one)
    if word in PAIRED:
        return kept(either_pair(word, one, other))
    return kept(chosen(word, one, other))


def either_pair(word, one, other):
    """Two pairs put together, as great as they are, where either is due."""
    if one[0] == other[0]:
        return (one[0], one[1] + other[1])
    return one if chosen(word, one[0], other[0]) == one[0] else other


def chosen(word, one, other):
    """The number of two that a word takes."""
    return min(one, other) if word in LESSER else max(one, other)


def kept(worth):
    """A worth, or the fault of one that has a number of too many figures."""
    numbers = worth if isinstance(worth, tuple) else (worth,)
    for number in numbers:
        if number is not None and abs(number) >= BOUND:
            return "great"
    return worth
