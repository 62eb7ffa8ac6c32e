"""Readings and worths reckoned in another way, for the tests to compare with.

A reading is written out as a flat row of events, and a worth is reckoned of them with a stack; sums and conditions are
reckoned by Python's own signs, and a fault is thrown.
"""


class Fault(Exception):
    pass


def place_unless(right):
    if not right:
        raise Fault("place")


def kids_of(tree, knot):
    place_unless(0 <= knot <= len(tree))
    return [child for child in range(1, len(tree) + 1) if tree[child - 1] == knot]


def number_of(one, given, own):
    """What a sum comes to; a fault is thrown."""
    number = reckon(one, given, own)
    if len(str(abs(number))) > 60:
        raise Fault("great")
    return number


def reckon(one, given, own):
    word = one[0]
    if word == "num":
        return one[1]
    if word == "own":
        return own[one[1]]
    named = given[one[1]] if word in ("need", "size", "at", "kids", "kid") else None
    parts = [number_of(part, given, own) for part in one[1:] if isinstance(part, tuple)]
    if word in ("need", "size"):
        return named if word == "need" else len(named) + (1 if isinstance(named, tuple) else 0)
    if word == "at":
        place_unless(parts[0] in range(len(named)))
        return ord(named[parts[0]]) - 97 if isinstance(named, str) else named[parts[0]]
    if word == "kids":
        return len(kids_of(named, parts[0]))
    if word == "kid":
        found = dict(enumerate(kids_of(named, parts[0])))
        place_unless(parts[1] in found)
        return found[parts[1]]
    if word in ("with", "without"):
        place_unless(parts[0] >= 0 and parts[1] in range(13))
        return parts[0] | 2 ** parts[1] if word == "with" else parts[0] & ~(2 ** parts[1])
    if word in ("full", "many"):
        place_unless(parts[0] in range(13) if word == "full" else parts[0] >= 0)
        return 2 ** parts[0] - 1 if word == "full" else bin(parts[0]).count("1")
    if word == "rest" and parts[1] < 1:
        raise Fault("nought")
    return {
        "plus": lambda s, t: s + t, "less": lambda s, t: s - t, "times": lambda s, t: s * t, "half": lambda s: s >> 1,
        "rest": lambda s, t: divmod(s, t)[1], "lesser": min, "greater": max,
    }[word](*parts)


def truth_of(cond, given, own):
    word = cond[0]
    if word in ("not", "and", "or"):
        parts = [truth_of(part, given, own) for part in cond[1:]]
        return {"not": lambda c: not c, "and": lambda c, d: c & d, "or": lambda c, d: c | d}[word](*parts)
    s, t = [number_of(part, given, own) for part in cond[1:]]
    if word == "has":
        place_unless(s >= 0 and t in range(13))
        return s // 2 ** t % 2 == 1
    return s < t if word == "below" else s == t


def labelled(body, labels):
    """The body as lists, with each call's number behind it; labels counts them."""
    if body[0] == "call":
        labels.append(None)
        return ["call", body[1], body[2], len(labels) - 1]
    if body[0] == "choose":
        return ["choose", [labelled(part, labels) for part in body[1]]]
    firsts = {"both": 1, "if": 2, "each": 3, "all": 3}
    at = firsts.get(body[0], len(body))
    return list(body[:at]) + [labelled(part, labels) for part in body[at:]]


class Events:
    """A reading, as events: put W (a worth by its name), call n cell, join by both or either, fault."""

    def __init__(self, program, given, cell):
        self.given = given
        self.mosts = [[number_of(most, given, []) for most in mosts] for _, mosts, _ in program[1]]
        self.rows = []
        try:
            self.go(labelled(program[1][cell[0]][2], []), list(cell[1]))
        except Fault as fault:
            self.rows.append(("fault", str(fault)))

    def go(self, body, own):
        word = body[0]
        if word == "gain":
            self.rows.append(("gain", number_of(body[1], self.given, own)))
        elif word == "none":
            self.rows.append(("nothing",))
        elif word == "call":
            args = tuple([number_of(arg, self.given, own) for arg in body[2]])
            if not all(0 <= arg <= most for arg, most in zip(args, self.mosts[body[1]])):
                raise Fault("beyond")
            self.rows.append(("call", body[3], (body[1], args)))
        elif word == "if":
            self.go(body[2] if truth_of(body[1], self.given, own) else body[3], own)
        elif word == "both":
            self.go(body[1], own)
            self.go(body[2], own)
            self.rows.append(("join", "both"))
        elif word == "choose":
            for at, part in enumerate(body[1]):
                self.go(part, own)
                if at > 0:
                    self.rows.append(("join", "either"))
        else:
            low, high = number_of(body[1], self.given, own), number_of(body[2], self.given, own)
            if high - low + 1 > 16:
                raise Fault("wide")
            self.rows.append(("nothing" if word == "each" else "whole",))
            while low <= high:
                self.go(body[3], own + [low])
                self.rows.append(("join", "either" if word == "each" else "both"))
                low += 1


def calls(program, given, cell):
    return [(row[1], row[2]) for row in Events(program, given, cell).rows if row[0] == "call"]


def fault_of(program, given, cell):
    rows = Events(program, given, cell).rows
    return rows[-1][1] if rows[-1][0] == "fault" else None


NOTHING = {"least": None, "greatest": None, "ways": 0, "sum": 0, "leasts": None, "greatests": None}
WHOLE = {"least": 0, "greatest": 0, "ways": 1, "sum": 1, "leasts": (0, 1), "greatests": (0, 1)}


def joined(way, word, one, other):
    if word in ("ways", "sum"):
        return one * other if way == "both" else one + other
    if one is None or other is None:
        return None if way == "both" else (one if other is None else other)
    if word in ("least", "greatest"):
        return one + other if way == "both" else sorted([one, other])[0 if word == "least" else 1]
    if way == "both":
        return (one[0] + other[0], one[1] * other[1])
    best = sorted([one[0], other[0]])[0 if word == "leasts" else 1]
    return (best, sum(pair[1] for pair in (one, other) if pair[0] == best))


def figures(worth):
    numbers = worth if isinstance(worth, tuple) else [worth] if worth is not None else []
    return max([len(str(abs(number))) for number in numbers], default=0)


def cell_worth(program, given, cell, word, known):
    stack = []
    for row in Events(program, given, cell).rows:
        if row[0] == "join":
            other, one = stack.pop(), stack.pop()
            stack.append(joined(row[1], word, one, other))
            if figures(stack[-1]) > 400:
                return "great"
        elif row[0] == "fault":
            return row[1]
        elif row[0] == "call":
            stack.append(known[row[2]])
            if isinstance(stack[-1], str):
                return stack[-1]
        elif row[0] == "gain":
            gains = {"ways": 1, "leasts": (row[1], 1), "greatests": (row[1], 1)}
            stack.append(gains.get(word, row[1]))
        else:
            stack.append({"nothing": NOTHING, "whole": WHOLE}[row[0]][word])
    assert len(stack) == 1
    return stack[0]


class Long(Exception):
    pass


def plain(program, given, ask, word):
    """The plain worth, by a row of cells that are being read, each with its events, its place in them and its stack."""
    made = {ask: Events(program, given, ask).rows}
    frames, read = [[made[ask], 0, []]], 1
    while True:
        rows, place, stack = frames[-1]
        if place == len(rows):
            frames.pop()
            if not frames:
                return stack[0]
            frames[-1][2].append(stack[0])
            continue
        frames[-1][1] += 1
        row = rows[place]
        if row[0] == "call":
            if read == 3000 or len(frames) == 20:
                raise Long
            read += 1
            if row[2] not in made:
                made[row[2]] = Events(program, given, row[2]).rows
            frames.append([made[row[2]], 0, []])
        elif row[0] == "fault":
            return row[1]
        elif row[0] == "join":
            other, one = stack.pop(), stack.pop()
            stack.append(joined(row[1], word, one, other))
            if figures(stack[-1]) > 400:
                return "great"
        elif row[0] == "gain":
            stack.append({"ways": 1, "leasts": (row[1], 1), "greatests": (row[1], 1)}.get(word, row[1]))
        else:
            stack.append({"nothing": NOTHING, "whole": WHOLE}[row[0]][word])


def hanging(program, given, ask):
    """The wants of all wanted cells, by the cells."""
    told, due = {}, {ask}
    while due:
        cell = due.pop()
        told[cell] = {called for _, called in calls(program, given, cell)}
        due |= told[cell] - set(told)
    return told


def has_ring(hangs):
    """Whether what is left, when all without wants left are taken away again and again, is something."""
    left = dict(hangs)
    while True:
        free = [cell for cell in left if not any(want in left for want in left[cell])]
        if not free:
            return bool(left)
        for cell in free:
            del left[cell]


def number_by(key, args):
    args = list(args) + [0] * 4
    word, k = key
    return {"up": args[k], "down": -args[k], "wide": args[k + 1] - args[k], "bits": bin(args[k]).count("1")}[word]


def right(hangs, rule):
    rank = lambda cell: [number_by(key, cell[1]) for key in rule] + [cell[0]]
    return all(rank(cell) > rank(want) for cell in hangs for want in hangs[cell])
