"""Points 2 and 3 over the whole program, by drawn programs."""

import copy
import random
import unittest

import making
import oracle
from roomtables.cells import is_cell, mosts_of
from roomtables.checker import lets_by, rooms, told_by
from roomtables.desk import Desk
from roomtables.errors import NoBack, NoRoad, NoRule, NoTurn, Ring, RoomError, TooGreat, TooLong
from roomtables.givens import given_of
from roomtables.lines import calls_of, gap, is_sure, sure_rules
from roomtables.notes import (
    read_cell, read_paper, read_worth, show_cell, show_paper, show_rule, show_worth,
)
from roomtables.orders import order_or_ring, wanted
from roomtables.papers import fewest, paper_of
from roomtables.picks import led
from roomtables.placed import placed
from roomtables.plain import plain
from roomtables.programs import program_of
from roomtables.reader import read
from roomtables.readings import calls, cell_worth, fault_of, wants
from roomtables.roads import is_road, road, road_worth
from roomtables.rules import is_right, rank, right_rules, rules
from roomtables.tables import answer, table
from roomtables.texts import show
from roomtables.turned import cell_exchanged, cell_moved, exchanged, moved
from roomtables.walks import walk_product, walk_worth, walks
from roomtables.words import WORDS

PLANS = ("all", "tight", "layers")


def told_of(asked, *handed):
    """What is told, or the refusal, with its field."""
    try:
        return asked(*handed)
    except RoomError as refusal:
        return (type(refusal), getattr(refusal, "cells", None), getattr(refusal, "line", None))


def drawn(seed, many):
    """Programs, givens and asks."""
    chance = random.Random(seed)
    while many > 0:
        program = chance.choice([making.a_program, making.a_falling_program, making.a_falling_program, making.a_lined_program])(chance)
        given = making.a_given(chance, program)
        for ask in making.some_cells(chance, mosts_of(program, given), 1):
            many -= 1
            yield chance, program, given, ask


def ordered(seed, many):
    """Those of them that have an order."""
    for chance, program, given, ask in drawn(seed, 10 ** 6):
        hangs = oracle.hanging(program, given, ask)
        if len(hangs) <= 200 and not oracle.has_ring(hangs):
            yield chance, program, given, ask, hangs
            many -= 1
            if many == 0:
                return


class Promise(unittest.TestCase):
    def test_an_order_or_a_ring(self):
        met = set()
        for chance, program, given, ask in drawn(111, 300):
            hangs = oracle.hanging(program, given, ask)
            told = told_of(order_or_ring, program, given, ask)
            if len(hangs) > 200:
                self.assertEqual(told[0], TooGreat)
                continue
            kind, cells = told
            met.add(kind)
            self.assertEqual(kind == "ring", oracle.has_ring(hangs))
            if kind == "ring":
                self.assertTrue(all(after in hangs[cell] for cell, after in zip(cells, cells[1:] + cells[:1])))
                for asked in (answer, road):
                    self.assertEqual(told_of(asked, program, given, ask, "least")[0], Ring)
                for asked in (walks, fewest):
                    self.assertEqual(told_of(asked, program, given, ask)[0], Ring)
                self.assertEqual(right_rules(program, given, ask), [])
            else:
                self.assertTrue(all(hangs[cell] <= set(cells[:place]) for place, cell in enumerate(cells)))
                self.assertEqual(sorted(cells), wanted(program, given, ask))
        self.assertEqual(met, {"order", "ring"})

    def test_the_tables_and_the_plain_runner(self):
        many = faults = 0
        for chance, program, given, ask, hangs in ordered(112, 200):
            for word in WORDS:
                told = told_of(plain, program, given, ask, word)
                if told != (TooLong, None, None):
                    self.assertEqual(answer(program, given, ask, word), told)
                    many += 1
                    faults += isinstance(told, str)
        self.assertGreater(many, 500)
        self.assertGreater(faults, 50)

    def test_whatever_paper_is_let_by(self):
        """Papers as they come: rows that are let by one by one, in rooms by chance."""
        many = 0
        for chance, program, given, ask, hangs in ordered(113, 150):
            word = chance.choice(WORDS)
            held, paper = {}, []
            for _ in range(4 * len(hangs)):
                known = {cell: worth for cell, worth in held.values()}
                ready = [cell for cell in sorted(hangs) if hangs[cell] <= set(known)]
                cell = chance.choice(ready)
                room = chance.randrange(max(2, len(hangs)))
                held[room] = (cell, cell_worth(program, given, cell, word, known))
                paper.append((cell, room, held[room][1]))
                if cell == ask:
                    break
            stands = ask in [cell for cell, _ in held.values()]
            self.assertIs(lets_by(program, given, ask, word, paper), stands)
            if stands:
                many += 1
                self.assertEqual(told_by(paper, ask), oracle.all_worths(program, given, hangs, word)[ask])
        self.assertGreater(many, 60)

    def test_sure_rules_are_right_for_each_given(self):
        many = 0
        for chance, program, given, ask in drawn(114, 150):
            for rule in sure_rules(program):
                for _ in range(3):
                    other = making.a_given(chance, program)
                    for cell in making.some_cells(chance, mosts_of(program, other), 2):
                        if len(oracle.hanging(program, other, cell)) <= 200:
                            many += 1
                            self.assertIs(is_right(program, other, cell, rule), True)
        self.assertGreater(many, 500)

    def test_the_tight_paper_and_the_fewest(self):
        for chance, program, given, ask, hangs in ordered(115, 100):
            word = chance.choice(WORDS)
            right = right_rules(program, given, ask)
            counts = []
            for rule in right:
                paper = paper_of(program, given, ask, word, rule, "tight")
                counts.append(rooms(paper))
                # At each row just so many cells must stand side by side, however they are kept.
                self.assertEqual(rooms(paper), oracle.least_rooms(hangs, [row[0] for row in paper], ask))
                self.assertLessEqual(rooms(paper), rooms(paper_of(program, given, ask, word, rule, "layers")))
            if right:
                self.assertEqual(fewest(program, given, ask), (right[counts.index(min(counts))], min(counts)))
            else:
                self.assertRaises(NoRule, fewest, program, given, ask)

    def test_walks_roads_and_worths(self):
        many = 0
        for chance, program, given, ask, hangs in ordered(116, 300):
            for word in ("least", "greatest"):
                due = answer(program, given, ask, word)
                if isinstance(due, str):
                    self.assertRaises(NoRoad, road, program, given, ask, word)
                else:
                    told = road(program, given, ask, word)
                    self.assertEqual(told is None, due is None)
                    if told is not None:
                        self.assertIs(is_road(program, given, ask, told), True)
                        self.assertEqual(road_worth(program, given, told), due)
            try:
                told = walks(program, given, ask)
            except (NoRoad, TooLong):
                continue
            many += 1
            worths = [walk_worth(program, given, walk) for walk in told]
            least, greatest = min(worths, default=None), max(worths, default=None)
            self.assertEqual(answer(program, given, ask, "least"), least)
            self.assertEqual(answer(program, given, ask, "greatest"), greatest)
            self.assertEqual(answer(program, given, ask, "ways"), len(told))
            self.assertEqual(answer(program, given, ask, "sum"), sum(walk_product(program, given, walk) for walk in told))
            self.assertEqual(answer(program, given, ask, "leasts"), (least, worths.count(least)) if told else None)
            self.assertEqual(answer(program, given, ask, "greatests"), (greatest, worths.count(greatest)) if told else None)
        self.assertGreater(many, 60)

    def turned(self, chance, program, ask):
        """A program turned in some way, and the ask; the same ones where it cannot be so."""
        f = chance.randrange(len(program[1]))
        way = chance.choice(["exchanged", "moved", "placed", "placed"])
        order = list(range(len(program[1] if way == "moved" else program[1][f][1])))
        chance.shuffle(order)
        if way == "exchanged":
            return exchanged(program, f, tuple(order)), cell_exchanged(ask, f, tuple(order))
        if way == "moved":
            return moved(program, tuple(order)), cell_moved(ask, tuple(order))
        try:
            return placed(program, f, chance.randrange(4)), ask
        except NoTurn:
            return program, ask

    def test_programs_turned_again_and_again(self):
        many = 0
        for chance, program, given, ask, hangs in ordered(117, 150):
            turned, turned_ask = program, ask
            for _ in range(4):
                turned, turned_ask = self.turned(chance, turned, turned_ask)
            many += turned != program
            self.assertEqual(order_or_ring(turned, given, turned_ask)[0], "order")
            for word in WORDS:
                due = answer(program, given, ask, word)
                told = answer(turned, given, turned_ask, word)
                if isinstance(due, str):
                    # Where two faults are due in the args of one call it may be the other one.
                    self.assertIsInstance(told, str)
                else:
                    self.assertEqual(told, due)
        self.assertGreater(many, 70)


class Written(unittest.TestCase):
    def thing(self, thing):
        """A thing as the desk is told it."""
        if isinstance(thing, (list, tuple)):
            return ",".join([str(one) for one in thing]) or "-"
        return str(thing) or "-"

    def test_the_desk_tells_what_the_stages_tell(self):
        for chance, program, given, ask in drawn(118, 150):
            desk = Desk(show(program))
            for name, thing in given.items():
                self.assertEqual(desk.say(f"give {name} {self.thing(thing)}"), "ok")
            cell = show_cell(program, ask)
            for word in WORDS:
                due = told_of(answer, program, given, ask, word)
                told = told_of(desk.say, f"answer {word} {cell}")
                self.assertEqual(told, due if isinstance(due, tuple) and isinstance(due[0], type) else show_worth(due))
                paper = told_of(desk.say, f"paper {word} {cell}")
                if isinstance(paper, str):
                    self.assertEqual(desk.say(f"look {word} {cell} {paper}"), "yes")
                    self.assertEqual(told_by(read_paper(program, paper), ask), due)
            self.assertEqual(desk.say("program"), show(program))

    def test_a_desk_by_chance(self):
        """Rows by chance, with all that is kept reckoned beside it."""
        for seed in range(40):
            chance = random.Random(1190 + seed)
            program = making.a_falling_program(chance)
            desk, kept = Desk(show(program)), [(program, {})]
            for _ in range(25):
                self.one_row(chance, desk, kept)
                self.assertEqual(desk.say("program"), show(kept[-1][0]))

    def one_row(self, chance, desk, kept):
        program, things = kept[-1]
        f = chance.randrange(len(program[1]))
        name = program[1][f][0]
        way = chance.choice(["give", "give", "exchange", "put", "back", "answer", "answer"])
        if way == "give":
            need, thing = chance.choice(sorted(making.a_given(chance, program).items()))
            kept.append((program, {**things, need: thing}))
            self.assertEqual(desk.say(f"give {need} {self.thing(thing)}"), "ok")
        elif way == "exchange":
            order = [chance.randrange(3) for _ in range(chance.randrange(1, 4))]
            row = f"exchange {name} {' '.join([str(place) for place in order])}"
            self.turn(desk, row, kept, told_of(exchanged, program, f, tuple(order)))
        elif way == "put":
            n = chance.randrange(3)
            self.turn(desk, f"put {name} {n}", kept, told_of(placed, program, f, n))
        elif way == "back" and len(kept) == 1:
            self.assertRaises(NoBack, desk.say, "back")
        elif way == "back":
            kept.pop()
            self.assertEqual(desk.say("back"), "ok")
        else:
            ask = (f, tuple(chance.randrange(4) for _ in program[1][f][1]))
            due = told_of(lambda: show_worth(answer(program, given_of(program, things), ask, "leasts")))
            self.assertEqual(told_of(desk.say, f"answer leasts {show_cell(program, ask)}"), due)

    def turn(self, desk, row, kept, due):
        if isinstance(due[0], type):
            self.assertRaises(due[0], desk.say, row)
        else:
            kept.append((due, kept[-1][1]))
            self.assertEqual(desk.say(row), "ok")


def all_asked(chance, program, given, ask, known):
    """All that the interface tells of a program, a given and an ask, as functions without arguments."""
    word, rule, plan = chance.choice(WORDS), chance.choice(rules()), chance.choice(PLANS)
    paper = told_of(paper_of, program, given, ask, word, (("up", 0),), plan)
    one = told_of(road, program, given, ask, "least")
    handed = [program, given, ask, known, paper, one]
    told = {
        "program_of": lambda: program_of(*program), "given_of": lambda: given_of(program, given), "mosts_of": lambda: mosts_of(program, given),
        "is_cell": lambda: is_cell(program, given, ask), "calls": lambda: calls(program, given, ask), "wants": lambda: wants(program, given, ask),
        "fault_of": lambda: fault_of(program, given, ask), "cell_worth": lambda: cell_worth(program, given, ask, "least", known),
        "plain": lambda: plain(program, given, ask, word), "wanted": lambda: wanted(program, given, ask),
        "order_or_ring": lambda: order_or_ring(program, given, ask), "answer": lambda: answer(program, given, ask, word),
        "table": lambda: table(program, given, ask, word), "rules": rules, "rank": lambda: rank(rule, ask),
        "is_right": lambda: is_right(program, given, ask, rule), "right_rules": lambda: right_rules(program, given, ask),
        "calls_of": lambda: calls_of(program), "gaps": lambda: [gap(program, f, n, ("up", 0)) for f, n, _ in calls_of(program)],
        "is_sure": lambda: is_sure(program, rule), "sure_rules": lambda: sure_rules(program),
        "lets_by": lambda: lets_by(program, given, ask, word, paper), "paper_of": lambda: paper_of(program, given, ask, word, rule, plan),
        "fewest": lambda: fewest(program, given, ask), "road": lambda: road(program, given, ask, word),
        "is_road": lambda: is_road(program, given, ask, one), "walks": lambda: walks(program, given, ask),
        "exchanged": lambda: exchanged(program, 0, tuple(reversed(range(len(program[1][0][1]))))),
        "moved": lambda: moved(program, tuple(reversed(range(len(program[1]))))), "placed": lambda: placed(program, 0, 0),
        "show": lambda: show(program), "read": lambda: read(show(program)), "show_cell": lambda: show_cell(program, ask),
        "read_cell": lambda: read_cell(program, show_cell(program, ask)), "show_rule": lambda: show_rule(rule),
        "worth": lambda: read_worth(show_worth(answer(program, given, ask, word))),
    }
    if isinstance(paper, list):
        told["rooms"] = lambda: rooms(paper)
        told["told_by"] = lambda: told_by(paper, ask)
        told["read_paper"] = lambda: read_paper(program, show_paper(program, paper))
    if isinstance(one, list):
        told["road_worth"] = lambda: road_worth(program, given, one)
        told["led"] = lambda: led(program, given, ask, one[0][1])
    return handed, told


def spoil(thing):
    """Changes all lists and dicts within a thing."""
    if isinstance(thing, (list, tuple)):
        for one in thing:
            spoil(one)
    if isinstance(thing, list):
        thing.append("spoilt")
    if isinstance(thing, dict):
        thing.clear()


class Own(unittest.TestCase):
    def test_nothing_is_changed_and_what_is_told_is_the_askers_own(self):
        met = set()
        for chance, program, given, ask in drawn(120, 80):
            known = {cell: making.a_worth(chance, "least") for cell in wants(program, given, ask)}
            handed, asked = all_asked(chance, program, given, ask, known)
            kept = copy.deepcopy(handed)
            first = {name: copy.deepcopy(told_of(one)) for name, one in asked.items()}
            self.assertEqual(handed, kept)
            for name in first:
                told = told_of(asked[name])
                self.assertEqual(told, first[name], name)
                spoil(told)
                self.assertEqual(told_of(asked[name]), first[name], name)
                self.assertEqual(handed, kept, name)
                met.add(name)
        self.assertEqual(met, set(asked) | {"rooms", "told_by", "read_paper", "road_worth", "led"})

    def test_what_is_changed_afterwards(self):
        """A given that the asker changes is another one; one made of a dict has nothing more of it."""
        chance = random.Random(121)
        program = program_of(making.NEEDS, (("fa", (("num", 9),), ("gain", ("at", "line", ("own", 0)))),))
        things = {"count": 1, "line": [1, 2, 3], "word": "ab", "knots": (0,)}
        given = given_of(program, things)
        things["line"].append(4)
        things["count"] = chance.randrange(5, 9)
        self.assertEqual(given["line"], [1, 2, 3])
        self.assertEqual(answer(program, given, (0, (3,)), "least"), "place")
        given["line"].append(7)
        self.assertEqual(answer(program, given, (0, (3,)), "least"), 7)


if __name__ == "__main__":
    unittest.main()
