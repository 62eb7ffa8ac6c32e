"""Readings and worths reckoned in another way, for the tests to compare with.

A reading is written out as a flat row of events, and a worth is reckoned of them with a stack; sums and conditions are
reckoned by Python's own signs, and a fault is thrown.
"""

import itertools
import re


class Fault(Exception):
    pass


def place_unless(right):
    if not right:
        raise Fault("place")


def kids_of(tree, knot):
    place_unless(0 <= knot <= len(tree))
    return [child for child in range(1, len(tree) + 1) if tree[child - 1] == knot]


def number_of(one, given, own):
    """What a sum comes to; a fault is thrown."""
    number = reckon(one, given, own)
    if len(str(abs(number))) > 60:
        raise Fault("great")
    return number


def reckon(one, given, own):
    word = one[0]
    if word == "num":
        return one[1]
    if word == "own":
        return own[one[1]]
    named = given[one[1]] if word in ("need", "size", "at", "kids", "kid") else None
    parts = [number_of(part, given, own) for part in one[1:] if isinstance(part, tuple)]
    if word in ("need", "size"):
        return named if word == "need" else len(named) + (1 if isinstance(named, tuple) else 0)
    if word == "at":
        place_unless(parts[0] in range(len(named)))
        return ord(named[parts[0]]) - 97 if isinstance(named, str) else named[parts[0]]
    if word == "kids":
        return len(kids_of(named, parts[0]))
    if word == "kid":
        found = dict(enumerate(kids_of(named, parts[0])))
        place_unless(parts[1] in found)
        return found[parts[1]]
    if word in ("with", "without"):
        place_unless(parts[0] >= 0 and parts[1] in range(13))
        return parts[0] | 2 ** parts[1] if word == "with" else parts[0] & ~(2 ** parts[1])
    if word in ("full", "many"):
        place_unless(parts[0] in range(13) if word == "full" else parts[0] >= 0)
        return 2 ** parts[0] - 1 if word == "full" else bin(parts[0]).count("1")
    if word == "rest" and parts[1] < 1:
        raise Fault("nought")
    return {
        "plus": lambda s, t: s + t, "less": lambda s, t: s - t, "times": lambda s, t: s * t, "half": lambda s: s >> 1,
        "rest": lambda s, t: divmod(s, t)[1], "lesser": min, "greater": max,
    }[word](*parts)


def truth_of(cond, given, own):
    word = cond[0]
    if word in ("not", "and", "or"):
        parts = [truth_of(part, given, own) for part in cond[1:]]
        return {"not": lambda c: not c, "and": lambda c, d: c & d, "or": lambda c, d: c | d}[word](*parts)
    s, t = [number_of(part, given, own) for part in cond[1:]]
    if word == "has":
        place_unless(s >= 0 and t in range(13))
        return s // 2 ** t % 2 == 1
    return s < t if word == "below" else s == t


def labelled(body, labels):
    """The body as lists, with each call's number behind it; labels counts them."""
    if body[0] == "call":
        labels.append(None)
        return ["call", body[1], body[2], len(labels) - 1]
    if body[0] == "choose":
        return ["choose", [labelled(part, labels) for part in body[1]]]
    firsts = {"both": 1, "if": 2, "each": 3, "all": 3}
    at = firsts.get(body[0], len(body))
    return list(body[:at]) + [labelled(part, labels) for part in body[at:]]


class Events:
    """A reading, as events: put W (a worth by its name), call n cell, join by both or either, fault."""

    def __init__(self, program, given, cell):
        self.given = given
        self.mosts = [[number_of(most, given, []) for most in mosts] for _, mosts, _ in program[1]]
        self.rows = []
        try:
            self.go(labelled(program[1][cell[0]][2], []), list(cell[1]))
        except Fault as fault:
            self.rows.append(("fault", str(fault)))

    def go(self, body, own):
        word = body[0]
        if word == "gain":
            self.rows.append(("gain", number_of(body[1], self.given, own)))
        elif word == "none":
            self.rows.append(("nothing",))
        elif word == "call":
            args = tuple([number_of(arg, self.given, own) for arg in body[2]])
            if not all(0 <= arg <= most for arg, most in zip(args, self.mosts[body[1]])):
                raise Fault("beyond")
            self.rows.append(("call", body[3], (body[1], args)))
        elif word == "if":
            self.go(body[2] if truth_of(body[1], self.given, own) else body[3], own)
        elif word == "both":
            self.go(body[1], own)
            self.go(body[2], own)
            self.rows.append(("join", "both"))
        elif word == "choose":
            for at, part in enumerate(body[1]):
                self.go(part, own)
                if at > 0:
                    self.rows.append(("join", "either"))
        else:
            low, high = number_of(body[1], self.given, own), number_of(body[2], self.given, own)
            if high - low + 1 > 16:
                raise Fault("wide")
            self.rows.append(("nothing" if word == "each" else "whole",))
            while low <= high:
                self.go(body[3], own + [low])
                self.rows.append(("join", "either" if word == "each" else "both"))
                low += 1


def calls(program, given, cell):
    return [(row[1], row[2]) for row in Events(program, given, cell).rows if row[0] == "call"]


def fault_of(program, given, cell):
    rows = Events(program, given, cell).rows
    return rows[-1][1] if rows[-1][0] == "fault" else None


NOTHING = {"least": None, "greatest": None, "ways": 0, "sum": 0, "leasts": None, "greatests": None}
WHOLE = {"least": 0, "greatest": 0, "ways": 1, "sum": 1, "leasts": (0, 1), "greatests": (0, 1)}


def joined(way, word, one, other):
    if word in ("ways", "sum"):
        return one * other if way == "both" else one + other
    if one is None or other is None:
        return None if way == "both" else (one if other is None else other)
    if word in ("least", "greatest"):
        return one + other if way == "both" else sorted([one, other])[0 if word == "least" else 1]
    if way == "both":
        return (one[0] + other[0], one[1] * other[1])
    best = sorted([one[0], other[0]])[0 if word == "leasts" else 1]
    return (best, sum(pair[1] for pair in (one, other) if pair[0] == best))


def figures(worth):
    numbers = worth if isinstance(worth, tuple) else [worth] if worth is not None else []
    return max([len(str(abs(number))) for number in numbers], default=0)


def cell_worth(program, given, cell, word, known):
    stack = []
    for row in Events(program, given, cell).rows:
        if row[0] == "join":
            other, one = stack.pop(), stack.pop()
            stack.append(joined(row[1], word, one, other))
            if figures(stack[-1]) > 400:
                return "great"
        elif row[0] == "fault":
            return row[1]
        elif row[0] == "call":
            stack.append(known[row[2]])
            if isinstance(stack[-1], str):
                return stack[-1]
        elif row[0] == "gain":
            gains = {"ways": 1, "leasts": (row[1], 1), "greatests": (row[1], 1)}
            stack.append(gains.get(word, row[1]))
        else:
            stack.append({"nothing": NOTHING, "whole": WHOLE}[row[0]][word])
    assert len(stack) == 1
    return stack[0]


class Long(Exception):
    pass


def plain(program, given, ask, word):
    """The plain worth, by a row of cells that are being read, each with its events, its place in them and its stack."""
    made = {ask: Events(program, given, ask).rows}
    frames, read = [[made[ask], 0, []]], 1
    while True:
        rows, place, stack = frames[-1]
        if place == len(rows):
            frames.pop()
            if not frames:
                return stack[0]
            frames[-1][2].append(stack[0])
            continue
        frames[-1][1] += 1
        row = rows[place]
        if row[0] == "call":
            if read == 3000 or len(frames) == 20:
                raise Long
            read += 1
            if row[2] not in made:
                made[row[2]] = Events(program, given, row[2]).rows
            frames.append([made[row[2]], 0, []])
        elif row[0] == "fault":
            return row[1]
        elif row[0] == "join":
            other, one = stack.pop(), stack.pop()
            stack.append(joined(row[1], word, one, other))
            if figures(stack[-1]) > 400:
                return "great"
        elif row[0] == "gain":
            stack.append({"ways": 1, "leasts": (row[1], 1), "greatests": (row[1], 1)}.get(word, row[1]))
        else:
            stack.append({"nothing": NOTHING, "whole": WHOLE}[row[0]][word])


def hanging(program, given, ask):
    """The wants of all wanted cells, by the cells."""
    told, due = {}, {ask}
    while due:
        cell = due.pop()
        told[cell] = {called for _, called in calls(program, given, cell)}
        due |= told[cell] - set(told)
    return told


def has_ring(hangs):
    """Whether what is left, when all without wants left are taken away again and again, is something."""
    left = dict(hangs)
    while True:
        free = [cell for cell in left if not any(want in left for want in left[cell])]
        if not free:
            return bool(left)
        for cell in free:
            del left[cell]


def number_by(key, args):
    args = list(args) + [0] * 4
    word, k = key
    return {"up": args[k], "down": -args[k], "wide": args[k + 1] - args[k], "bits": bin(args[k]).count("1")}[word]


def right(hangs, rule):
    rank = lambda cell: [number_by(key, cell[1]) for key in rule] + [cell[0]]
    return all(rank(cell) > rank(want) for cell in hangs for want in hangs[cell])


def standing(body, turns=()):
    """The calls that stand in a body, each with the turns around it."""
    if body[0] == "call":
        yield body, turns
    elif body[0] == "choose":
        for one in body[1]:
            yield from standing(one, turns)
    elif body[0] in ("each", "all"):
        yield from standing(body[3], turns + (body[1:3],))
    elif body[0] in ("both", "if"):
        for one in body[-2:]:
            yield from standing(one, turns)


def calls_of(program):
    return [(f, n, one[1]) for f, (_, _, body) in enumerate(program[1]) for n, (one, _) in enumerate(standing(body))]


def all_words(one):
    return {one[0]}.union(*[all_words(part) for part in one[1:] if isinstance(part, tuple)])


def is_line(one):
    if not all_words(one) <= {"num", "own", "plus", "less", "times"}:
        return False
    if one[0] == "times" and all("own" in all_words(part) for part in one[1:]):
        return False
    return all(is_line(part) for part in one[1:] if isinstance(part, tuple))


def value(one, own):
    if one[0] in ("num", "own"):
        return one[1] if one[0] == "num" else own[one[1]]
    left, right = value(one[1], own), value(one[2], own)
    return {"plus": left + right, "less": left - right, "times": left * right}[one[0]]


def greatest(told, many, places, turns):
    """The greatest of a line, which is a function of the own numbers, put in one by one from the last turn on."""
    zeros = [0] * many
    factor = lambda told, k: told(zeros[:k] + [1] + zeros[k + 1:]) - told(zeros)
    for place, (low, high) in reversed(list(enumerate(turns, places))):
        if factor(told, place) != 0:
            end = high if factor(told, place) > 0 else low
            if not is_line(end):
                return None
            told = lambda own, told=told, end=end, k=place: told(own[:k] + [value(end, own)] + own[k + 1:])
    return told(zeros) if not any(factor(told, k) for k in range(many)) else None


def gap(program, f, n, key):
    call, turns = list(standing(program[1][f][2]))[n]
    places, args, (word, k) = len(program[1][f][1]), call[2], key
    if word == "bits":
        if k >= len(args):
            return 0
        one = args[k]
        while one[0] == "without":
            one = one[1]
        return 0 if one == ("own", k) and k < places else None
    if not all(is_line(one) for one in (args[k:k + 2] if word == "wide" else args[k:k + 1])):
        return None
    o = lambda own, k: own[k] if k < places else 0
    s = lambda own, k: value(args[k], own) if k < len(args) else 0
    told = {
        "up": lambda own: s(own, k) - o(own, k), "down": lambda own: o(own, k) - s(own, k),
        "wide": lambda own: (s(own, k + 1) - s(own, k)) - (o(own, k + 1) - o(own, k)),
    }[word]
    return greatest(told, places + len(turns), places, turns)


def all_picks(program, given, cell):
    """All right picks of a cell without a fault in its reading, with what each leads to."""
    told = {}
    for picks, called, gains in ways_through(program[1][cell[0]][2], given, list(cell[1])):
        told[tuple(picks)] = (called, gains)
    return told


def ways_through(body, given, own):
    """Each way through a body: its picks, the called cells and the gains."""
    word = body[0]
    if word == "gain":
        return [([], [], [number_of(body[1], given, own)])]
    if word == "none":
        return []
    if word == "call":
        return [([], [(body[1], tuple(number_of(arg, given, own) for arg in body[2]))], [])]
    if word == "if":
        return ways_through(body[2] if truth_of(body[1], given, own) else body[3], given, own)
    if word == "choose":
        return [([n] + way[0], way[1], way[2]) for n, one in enumerate(body[1]) for way in ways_through(one, given, own)]
    if word == "both":
        return one_behind_another([ways_through(part, given, own) for part in body[1:]])
    turns = range(number_of(body[1], given, own), number_of(body[2], given, own) + 1)
    inner = [ways_through(body[3], given, own + [turn]) for turn in turns]
    if word == "all":
        return one_behind_another(inner)
    return [([turn] + way[0], way[1], way[2]) for turn, ways in zip(turns, inner) for way in ways]


def one_behind_another(parts):
    told = [([], [], [])]
    for ways in parts:
        told = [tuple(a + b for a, b in zip(one, other)) for one in told for other in ways]
    return told


def ranked(hangs, rule):
    return sorted(hangs, key=lambda cell: ([number_by(key, cell[1]) for key in rule] + [cell[0]], cell[1]))


def wanted_from(hangs, row, cell, ask, place):
    """Whether a cell is the ask, or a want of a cell of the row from a place on."""
    return cell == ask or any(cell in hangs[later] for later in row[place:])


def tight_rooms(hangs, row, ask):
    held, told = {}, []
    for place, cell in enumerate(row):
        free = [room for room in range(len(row)) if room not in held or not wanted_from(hangs, row, held[room], ask, place + 1)]
        told.append(free[0])
        held[free[0]] = cell
    return told


def layered_rooms(hangs, row, ask, rule):
    layer_of = lambda cell: ([number_by(key, cell[1]) for key in rule] + [cell[0]])[0]
    held, told = {}, []
    for place, cell in enumerate(row):
        if place == 0 or layer_of(cell) != layer_of(row[place - 1]):
            held = {room: one for room, one in held.items() if wanted_from(hangs, row, one, ask, place)}
        room = min(set(range(len(row))) - set(held))
        told.append(room)
        held[room] = cell
    return told


def least_rooms(hangs, row, ask):
    """The most cells that must stand side by side behind a row."""
    return max(sum(wanted_from(hangs, row, cell, ask, place + 1) for cell in row[:place + 1]) for place in range(len(row)))


def is_worth(thing):
    if thing is None or isinstance(thing, str):
        return True
    if isinstance(thing, tuple):
        return len(thing) == 2 and all(type(one) is int for one in thing)
    return type(thing) is int


def lets_by(program, given, ask, word, paper):
    """Whether a list of tuples of a cell, a room and a thing is let by."""
    held = []
    for cell, room, told in paper:
        if not 0 <= room <= 999 or not is_worth(told):
            return False
        known = {one: worth for _, one, worth in held}
        if not {called for _, called in calls(program, given, cell)} <= set(known):
            return False
        if told != cell_worth(program, given, cell, word, known):
            return False
        held = [row for row in held if row[0] != room] + [(room, cell, told)]
    return ask in [cell for _, cell, _ in held]


def in_order(hangs):
    """The cells of what has no ring, wants first."""
    row = []
    while len(row) < len(hangs):
        row += [cell for cell in sorted(hangs) if cell not in row and hangs[cell] <= set(row)]
    return row


def all_worths(program, given, hangs, word):
    known = {}
    for cell in in_order(hangs):
        known[cell] = cell_worth(program, given, cell, word, known)
    return known


def best_picks(program, given, cell, answers):
    """The least of all right picks of a cell that come to its answer, by going through them one by one."""
    right = []
    for picks, (called, gains) in all_picks(program, given, cell).items():
        parts = [answers[one] for one in called]
        if None not in parts and sum(parts) + sum(gains) == answers[cell]:
            right.append(picks)
    return min(right)


def road(program, given, ask, hangs, word):
    """The road where the answer is a number."""
    answers = all_worths(program, given, hangs, word)
    rows = [ask]
    for cell in rows:
        picks = best_picks(program, given, cell, answers)
        for called in all_picks(program, given, cell)[picks][0]:
            if called not in rows:
                rows.append(called)
    return [(cell, best_picks(program, given, cell, answers)) for cell in rows]


def all_walks(program, given, hangs):
    """All walks of all wanted cells, where there are no faults and not too many of them."""
    told = {}
    for cell in in_order(hangs):
        told[cell] = []
        for picks, (called, gains) in all_picks(program, given, cell).items():
            for inner in itertools.product(*[told[one] for one in called]):
                told[cell].append((cell, picks, inner))
    return told


def rows_of(walk):
    """All rows of a walk, as cells and picks."""
    return [walk[:2]] + [row for one in walk[2] for row in rows_of(one)]


def gains_of(program, given, walk):
    return [gain for cell, picks in rows_of(walk) for gain in all_picks(program, given, cell)[picks][1]]


def rewritten(thing, change):
    """A tuple with each tuple within it rewritten, the inner ones first."""
    return change(tuple(rewritten(one, change) for one in thing)) if isinstance(thing, tuple) else thing


def shuffled(things, order):
    return tuple(things[order.index(place)] for place in range(len(order)))


def exchanged(program, f, order):
    def change(part):
        if part[:1] == ("call",) and part[1] == f:
            return ("call", f, shuffled(part[2], order))
        return part

    def change_own(part):
        return ("own", (order + tuple(range(len(order), 26)))[part[1]]) if part[:1] == ("own",) else part

    functions = [(name, mosts, rewritten(body, change)) for name, mosts, body in program[1]]
    name, mosts, body = functions[f]
    functions[f] = (name, shuffled(mosts, order), rewritten(body, change_own))
    return (program[0], tuple(functions))


def moved(program, order):
    change = lambda part: ("call", order[part[1]], part[2]) if part[:1] == ("call",) else part
    return (program[0], shuffled(rewritten(program[1], change), order))


def placed(program, f, n):
    """As it is written, be it a program or not: the call is marked first, and then rewritten."""
    name, mosts, body = program[1][f]
    marked = marked_call(labelled(body, []), n, len(mosts))
    return (program[0], program[1][:f] + ((name, mosts, rewritten(marked, lambda part: filled(program, part))),) + program[1][f + 1:])


def marked_call(body, n, own):
    """The labelled body with the n-th call marked, with how many own numbers there are, and the labels taken away."""
    if body[0] == "call":
        return ("marked", ("call", *body[1:3]), own) if body[3] == n else ("call", *body[1:3])
    if body[0] == "choose":
        return ("choose", tuple(marked_call(part, n, own) for part in body[1]))
    more = 1 if body[0] in ("each", "all") else 0
    return tuple(marked_call(part, n, own + more) if isinstance(part, list) else part for part in body)


def filled(program, part):
    if part[:1] != ("marked",):
        return part
    (_, g, args), own = part[1:]
    _, mosts, body = program[1][g]
    numbers = args + tuple(("own", own + k) for k in range(26))
    conds = [("not", ("or", ("below", s, ("num", 0)), ("below", m, s))) for s, m in zip(args, mosts)]
    while len(conds) > 1:
        conds[-2:] = [("and", *conds[-2:])]
    return ("if", conds[0], rewritten(body, lambda one: numbers[one[1]] if one[:1] == ("own",) else one), part[1])


def size_of(body):
    """How many parts a body has, how deep it is, and how many turns stand within one another in it."""
    if body[0] == "choose" or body[0] == "call":
        inner = body[-1]
    else:
        inner = [part for part in body[1:] if isinstance(part, tuple)]
    sizes = [size_of(part) for part in inner] + [(0, 0, 0)]
    turn = 1 if body[0] in ("each", "all") else 0
    return (1 + sum(one[0] for one in sizes), 1 + max(one[1] for one in sizes), turn + max(one[2] for one in sizes))


SHAPES = {
    "size": "x", "at": "xs", "kids": "xs", "kid": "xss", "full": "s", "with": "ss", "without": "ss", "many": "s", "plus": "ss", "less": "ss",
    "times": "ss", "half": "s", "rest": "ss", "lesser": "ss", "greater": "ss",
    "below": "ss", "same": "ss", "has": "ss", "not": "c", "and": "cc", "or": "cc",
    "gain": "s", "none": "", "both": "bb", "each": "ssb", "all": "ssb", "if": "cbb",
}
KINDS_OF_SHAPES = {"s": list(SHAPES)[:15], "c": list(SHAPES)[15:21], "b": list(SHAPES)[21:]}
BARRED = set(SHAPES) | {"num", "own", "need", "call", "choose", "number", "row", "text", "tree"}


def is_name(text):
    return re.fullmatch("[a-z]{2,8}", text) is not None and text not in BARRED


def fits(node, shape, names):
    """Whether a node, a text or a list of nodes, is a part of this shape."""
    if shape == "x":
        return isinstance(node, str) and is_name(node)
    if isinstance(node, str):
        return shape == "s" and (is_name(node) or re.fullmatch("[a-z]|0|-?[1-9][0-9]{0,29}", node) is not None)
    if not node or not isinstance(node[0], str):
        return False
    if node[0] == "call":
        return shape == "b" and len(node) > 1 and node[1] in names and all(fits(one, "s", names) for one in node[2:])
    if node[0] == "choose":
        return shape == "b" and all(fits(one, "b", names) for one in node[1:])
    if node[0] not in KINDS_OF_SHAPES[shape] or len(node) - 1 != len(SHAPES[node[0]]):
        return False
    return all(fits(one, inner, names) for one, inner in zip(node[1:], SHAPES[node[0]]))


def nodes_of(line):
    """The line as nested lists, None where the brackets don't fit; and how deep they are."""
    stack, deepest = [[]], 0
    for token in re.findall(r"[()]|[^() ]+", line):
        if token == "(":
            stack.append([])
            deepest = max(deepest, len(stack) - 1)
        elif token == ")":
            if len(stack) == 1:
                return None, 0
            stack[-2].append(stack.pop())
        else:
            stack[-1].append(token)
    return (stack[0] if len(stack) == 1 else None), deepest


def rendered(node):
    return node if isinstance(node, str) else "(" + " ".join(rendered(one) for one in node) + ")"


def is_fun_line(line, names):
    nodes, deepest = nodes_of(line)
    if nodes is None or deepest > 40 or " ".join(rendered(node) for node in nodes) != line or len(nodes) != 4:
        return False
    _, name, mosts, body = nodes
    return isinstance(name, str) and is_name(name) and isinstance(mosts, list) and all(fits(one, "s", names) for one in mosts) \
        and fits(body, "b", names)


def first_bad_line(text):
    """The number of the first line that isn't of the form, None where all are."""
    lines = text.split("\n")
    names = [line.split(" ")[1] for line in lines if line[:4] == "fun "]
    funs = False
    for number, line in enumerate(lines):
        kind, _, name = line.partition(" ")
        funs = funs or line[:4] == "fun "
        if funs and not (line[:4] == "fun " and is_fun_line(line, names)):
            return number
        if not funs and not (kind in ("number", "row", "text", "tree") and is_name(name)):
            return number
    return None
