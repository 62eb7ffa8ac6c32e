"""Programs, givens and cells made by a seeded chance, for the tests to compare by."""

from roomtables.errors import NoProgram
from roomtables.givens import given_of
from roomtables.programs import program_of

NEEDS = (("count", "number"), ("line", "row"), ("word", "text"), ("knots", "tree"))


def small(chance):
    return chance.choice([0, 0, 1, 1, 1, 2, 2, 3, 4, -1, 12, 13, 16, 17, 10 ** 29])


def a_sum(chance, own, deep):
    if deep <= 1 or chance.random() < 0.35:
        return chance.choice([
            ("num", small(chance)), ("own", chance.randrange(own)), ("own", chance.randrange(own)), ("need", "count"),
            ("size", chance.choice(["line", "word", "knots"])),
        ])
    part = lambda: a_sum(chance, own, deep - 1)
    word = chance.choice("at kids kid full with without many plus less less less times half rest lesser greater".split())
    if word == "at":
        return (word, chance.choice(["line", "word"]), part())
    if word == "kids":
        return (word, "knots", part())
    if word == "kid":
        return (word, "knots", part(), part())
    return (word, part()) if word in ("full", "many", "half") else (word, part(), part())


def a_cond(chance, own, deep):
    if deep <= 2 or chance.random() < 0.5:
        return (chance.choice(["below", "below", "same", "has"]), a_sum(chance, own, deep - 1), a_sum(chance, own, deep - 1))
    if chance.random() < 0.3:
        return ("not", a_cond(chance, own, deep - 1))
    return (chance.choice(["and", "or"]), a_cond(chance, own, deep - 1), a_cond(chance, own, deep - 1))


def an_arg(chance, own):
    """Mostly what leads to a cell that is there."""
    k = ("own", chance.randrange(own))
    return chance.choice([
        k, ("less", k, ("num", 1)), ("half", k), ("num", chance.randrange(3)), ("greater", ("num", 0), ("less", k, ("num", 2))),
        ("without", k, ("num", chance.randrange(3))), ("rest", k, ("num", 3)), a_sum(chance, own, 2),
    ])


def a_body(chance, counts, own, deep, turns):
    if deep <= 2 or chance.random() < 0.15:
        if chance.random() < 0.6:
            g = chance.randrange(len(counts))
            return ("call", g, tuple(an_arg(chance, own) for _ in range(counts[g])))
        return ("none",) if chance.random() < 0.15 else ("gain", a_sum(chance, own, 2))
    inner = lambda more=0: a_body(chance, counts, own + more, deep - 1, turns + more)
    word = chance.choice(["both", "both", "choose", "if", "each", "all"])
    if word == "both":
        return (word, inner(), inner())
    if word == "choose":
        return (word, tuple(inner() for _ in range(chance.randrange(1, 5))))
    if word == "if":
        return (word, a_cond(chance, own, 3), inner(), inner())
    if turns > 1:
        return inner()
    low = chance.choice([("num", 0), ("num", 1), a_sum(chance, own, 1)])
    high = chance.choice([("own", chance.randrange(own)), ("num", chance.randrange(4)), a_sum(chance, own, 2)])
    return (word, low, high, inner(1))


def a_most(chance):
    return chance.choice([
        ("num", chance.randrange(5)), ("size", "line"), ("need", "count"), ("full", ("size", "word")),
        ("less", ("size", "knots"), ("num", 1)), ("plus", ("need", "count"), ("num", 2)),
    ])


def a_program(chance):
    while True:
        counts = [chance.choice([1, 1, 2, 3]) for _ in range(chance.randrange(1, 5))]
        functions = []
        for name, many in zip(("fa", "fb", "fc", "fd"), counts):
            mosts = tuple(a_most(chance) for _ in range(many))
            functions.append((name, mosts, a_body(chance, counts, many, chance.randrange(2, 7), 0)))
        try:
            return program_of(NEEDS, tuple(functions))
        except NoProgram:
            continue


# How a first number falls, by which it is told where to stop, and by which turns it may fall to.
FALLING = {
    "up": (
        lambda own: ("below", ("own", 0), ("num", 2)),
        lambda chance, own: chance.choice([("less", ("own", 0), ("num", chance.randrange(1, 3))), ("half", ("own", 0))]),
        (("num", 0), ("less", ("own", 0), ("num", 1))),
    ),
    "down": (
        lambda own: ("below", ("num", 6), ("own", 0)),
        lambda chance, own: ("plus", ("own", 0), ("num", chance.randrange(1, 3))),
        (("plus", ("own", 0), ("num", 1)), ("num", 8)),
    ),
    "bits": (
        lambda own: ("same", ("own", 0), ("num", 0)),
        lambda chance, own: ("half", ("without", ("own", 0), ("num", chance.randrange(3)))),
        (("num", 0), ("half", ("own", 0))),
    ),
}


def a_falling_arg(chance, way, own, places):
    """A first number for a call; own numbers from places on are turns, which fall too."""
    if own > places and chance.random() < 0.6:
        return ("own", chance.randrange(places, own))
    return FALLING[way][1](chance, own)


def a_falling_call(chance, way, counts, own, f):
    g = chance.randrange(len(counts))
    # A function with a lesser number may be called at the same place.
    same = g < f and chance.random() < 0.4
    first = ("own", 0) if same else a_falling_arg(chance, way, own, counts[f])
    more = [chance.choice([("num", chance.randrange(3)), ("rest", ("own", chance.randrange(own)), ("num", 3))])
            for _ in range(counts[g] - 1)]
    return ("call", g, (first, *more))


def a_falling_body(chance, way, counts, own, f, deep, turns):
    if deep <= 2 or chance.random() < 0.2:
        if chance.random() < 0.75:
            return a_falling_call(chance, way, counts, own, f)
        return ("none",) if chance.random() < 0.3 else ("gain", chance.choice([("num", chance.randrange(-3, 9)), ("own", 0)]))
    inner = lambda more=0: a_falling_body(chance, way, counts, own + more, f, deep - 1, turns + more)
    word = chance.choice(["both", "choose", "choose", "if", "each", "all"])
    if word == "both":
        return (word, inner(), inner())
    if word == "choose":
        return (word, tuple(inner() for _ in range(chance.randrange(1, 4))))
    if word == "if":
        return (word, ("same", ("rest", ("own", chance.randrange(own)), ("num", 2)), ("num", 0)), inner(), inner())
    return inner() if turns > 1 else (word, *FALLING[way][2], inner(1))


def a_falling_program(chance):
    """A program whose calls mostly lead to lesser things, so that there are long orders."""
    while True:
        way = chance.choice(list(FALLING))
        counts = [chance.choice([1, 1, 2, 3]) for _ in range(chance.randrange(1, 4))]
        functions = []
        for f, many in enumerate(counts):
            leaf = ("gain", chance.choice([("num", chance.randrange(-3, 9)), ("own", many - 1)]))
            inner = a_falling_body(chance, way, counts, many, f, chance.randrange(3, 6), 0)
            mosts = (("num", 15 if way == "bits" else 8),) + (("num", 2),) * (many - 1)
            functions.append((("fa", "fb", "fc")[f], mosts, ("if", FALLING[way][0](many), leaf, inner)))
        try:
            return program_of(NEEDS, tuple(functions))
        except NoProgram:
            continue


def a_line(chance, own, deep):
    """Mostly a line."""
    if deep <= 1 or chance.random() < 0.3:
        return chance.choice([("num", chance.randrange(-3, 6)), ("own", chance.randrange(own)), ("own", own - 1)])
    part = lambda: a_line(chance, own, deep - 1)
    if chance.random() < 0.08:
        return chance.choice([("half", part()), ("times", part(), part()), ("without", part(), part()), ("size", "line")])
    if chance.random() < 0.25:
        sides = [("num", chance.randrange(-2, 4)), part()]
        chance.shuffle(sides)
        return ("times", *sides)
    return (chance.choice(["plus", "less", "less"]), part(), part())


def a_lined_arg(chance, own, k):
    """Mostly the own number k, if it is there, and a line of turns."""
    if k >= own or chance.random() < 0.2:
        return a_line(chance, own, 3)
    if chance.random() < 0.3:
        return ("without", ("own", k), a_line(chance, own, 1))
    return ("plus", ("own", k), chance.choice([("num", chance.randrange(-3, 4)), ("times", ("num", chance.randrange(-2, 3)), ("own", own - 1))]))


def a_lined_program(chance):
    """A program whose calls have lines for args, within turns whose ends are lines."""
    while True:
        counts = [chance.choice([1, 2, 2, 3]) for _ in range(chance.randrange(1, 4))]
        functions = []
        for f, many in enumerate(counts):
            turns = chance.choice([0, 1, 1, 2, 2])
            g = chance.randrange(len(counts))
            body = ("call", g, tuple(a_lined_arg(chance, many + turns, k) for k in range(counts[g])))
            for turn in reversed(range(turns)):
                ends = [a_line(chance, many + turn, 2) for _ in range(2)]
                body = (chance.choice(["each", "all"]), *ends, ("both", ("call", 0, tuple(
                    a_lined_arg(chance, many + turn + 1, k) for k in range(counts[0]))), body) if chance.random() < 0.3 else body)
            functions.append((("fa", "fb", "fc")[f], (("num", 6),) * many, body))
        try:
            return program_of(NEEDS, tuple(functions))
        except NoProgram:
            continue


def a_given(chance, program):
    return given_of(program, {
        "count": chance.choice([0, 1, 2, 3, 4, -1, -2, 10 ** 29]),
        "line": [chance.choice([0, 1, 2, -1, 5]) for _ in range(chance.randrange(5))],
        "word": "".join(chance.choice("abcz") for _ in range(chance.randrange(4))),
        "knots": tuple(chance.randrange(at + 1) for at in range(chance.randrange(6))),
    })


def some_cells(chance, mosts, many):
    """Some cells by these mosts, perhaps none."""
    cells = []
    for _ in range(many):
        f = chance.randrange(len(mosts))
        if min(mosts[f]) >= 0:
            cells.append((f, tuple(chance.randrange(min(most, 6) + 1) for most in mosts[f])))
    return cells


def a_worth(chance, word):
    if chance.random() < 0.08:
        return chance.choice(["place", "nought", "great", "wide", "beyond"])
    number = chance.choice([0, 1, 2, -3, 7, 7, 10 ** 200, 10 ** 399, -10 ** 200])
    if word in ("ways", "sum"):
        return number
    if chance.random() < 0.15:
        return None
    return number if word in ("least", "greatest") else (number, chance.choice([1, 2, 3, 10 ** 200]))
