"""Short ways to write the parts of programs by hand, for the tests."""

A, B, C, D = [("own", k) for k in range(4)]
NONE = ("none",)
YES = ("same", ("num", 1), ("num", 1))
NO = ("same", ("num", 1), ("num", 2))

# A sum for each fault that a sum can have.
GREAT = ("times", ("times", ("num", 10 ** 29), ("num", 10 ** 29)), ("num", 1000))
NOUGHT = ("rest", ("num", 1), ("num", 0))
PLACE = ("full", ("num", 13))


def num(n):
    return ("num", n)


def as_sum(thing):
    return num(thing) if isinstance(thing, int) else thing


def plus(one, other):
    return ("plus", as_sum(one), as_sum(other))


def less(one, other):
    return ("less", as_sum(one), as_sum(other))


def times(one, other):
    return ("times", as_sum(one), as_sum(other))


def half(one):
    return ("half", as_sum(one))


def below(one, other):
    return ("below", as_sum(one), as_sum(other))


def same(one, other):
    return ("same", as_sum(one), as_sum(other))


def gain(one):
    return ("gain", as_sum(one))


def call(function, *args):
    return ("call", function, tuple(as_sum(arg) for arg in args))


def choose(*bodies):
    return ("choose", bodies)


def both(*bodies):
    """The bodies, put together from the left."""
    told = bodies[0]
    for body in bodies[1:]:
        told = ("both", told, body)
    return told


def each(low, high, body):
    return ("each", as_sum(low), as_sum(high), body)


def every(low, high, body):
    """An all; the name is Python's."""
    return ("all", as_sum(low), as_sum(high), body)


def when(cond, body, other):
    return ("if", cond, body, other)


# A body for each fault that ends a reading.
ENDING = (
    (gain(GREAT), "great"), (gain(NOUGHT), "nought"), (gain(PLACE), "place"),
    (each(0, 16, NONE), "wide"), (call(0, -1), "beyond"),
)


def at(function, *args):
    """A cell."""
    return (function, args)
