"""Things of all kinds, for the asks that must take whatever is handed in."""


class Something:
    """A thing of a kind that the program does not know."""


def nested(many, inner):
    """A tuple in a tuple, so many times."""
    for _ in range(many):
        inner = (inner,)
    return inner


# No one of these is a sum, a condition, a body, a need, a function, a most, a program's part, a given or a cell.
ODD = [
    None, True, False, 0, 1, -1, 10 ** 30, "", "num", "none", "at", "x" * 30000, b"", b"num", "\n", " ",
    [], ["num", 1], ["none"], ["gain", ["num", 1]], {}, {"num": 1}, {1: 2}, set(), {"num"}, frozenset(),
    frozenset({1}), (), (()), ((),), ((), ()), (None,), (None, None), (0,), (0, 0, 0), (True,), (True, (1,)),
    ("",), ("", 1), ("num",), ("num", None), ("num", "1"), ("num", True), ("num", [1]), ("num", (1,)),
    (b"num", 1), ("Num", 1), ("num ", 1), ("num", 1, 2), (["num"], 1), ({}, 1), (set(), 1), ((("num", 1),),),
    (("num", 1), 1), Something(), Something, object(), len, range(3), slice(1, 2), ..., NotImplemented,
    ValueError("x"), iter([1]), (x for x in [1]), memoryview(b"num"), bytearray(b"num"),
    nested(58, "num"), nested(58, ("num", 1)), tuple(range(60)), ("num",) * 60, ("none", ()) * 30,
    ("none", None), ("gain",), ("call",), ("choose",), ("each",), ("if",), ("not",), ("below",),
]
