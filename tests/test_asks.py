"""Points 2 and 14: an ask that is no cell is refused wherever one is handed in, and nothing handed in is changed."""

import copy
import unittest

from odd_things import ODD, nested
from roomtables.checker import lets_by
from roomtables.errors import NoCell, NoRoad
from roomtables.givens import given_of
from roomtables.orders import order_or_ring, wanted
from roomtables.papers import fewest, paper_of
from roomtables.plain import plain
from roomtables.programs import program_of
from roomtables.roads import is_road, road
from roomtables.rules import is_right, right_rules, rules
from roomtables.tables import answer, table
from roomtables.walks import walks
from roomtables.words import WORDS
from writing import A, B, at, call, gain, less, num, same, when

PROGRAM = program_of((("count", "number"), ("line", "row")), (
    ("fa", (("need", "count"),), when(same(A, 0), gain(("at", "line", num(0))), call(0, less(A, 1)))),
    ("fb", (num(3), ("need", "count")), call(1, A, B)),
    ("fc", (less(("need", "count"), 6),), gain(1)),
))
THINGS = {"count": 5, "line": [4, 2]}

NO_CELLS = [
    at(0, -1), at(0, 6), at(0, 10 ** 29), at(0, -10 ** 29), at(1, 4, 0), at(1, 0, 6), at(1, -1, 0), at(2, 0), at(3, 0), at(-1, 0),
    at(0), at(0, 1, 1), at(1, 1), at(1, 1, 1, 1), at(0, True), at(0, False), at(False, 1), at(True, 1, 1), at(0, None),
    at(0, "1"), at("0", 1), at(None, 1), (0, [1]), [0, (1,)], [0, [1]], (0, 1), (0, (1,), None), (0,), ((0, (1,)),),
    (0, {1: 2}), (0, {1}), (0, ((1,),)), (0, ([1],)), ([], (1,)), ({}, (1,)), ("fa", (1,)), "fa(1)", "0", (0, "1"), (0, b"1"),
    nested(50, at(0, 1)), (0, (nested(50, 1),)), (0, tuple(range(60))),
] + ODD


def roadless(program, given, ask):
    """The refusal by a word that has no roads, as a text."""
    try:
        return road(program, given, ask, "ways")
    except NoRoad as refusal:
        return str(refusal)


ASKS = {
    "plain": lambda program, given, ask: plain(program, given, ask, "least"),
    "wanted": wanted,
    "order_or_ring": order_or_ring,
    "answer": lambda program, given, ask: answer(program, given, ask, "sum"),
    "table": lambda program, given, ask: table(program, given, ask, "leasts"),
    "is_right": lambda program, given, ask: is_right(program, given, ask, (("up", 0),)),
    "right_rules": right_rules,
    "lets_by": lambda program, given, ask: lets_by(program, given, ask, "least", [(ask, 0, 4)]),
    "paper_of": lambda program, given, ask: paper_of(program, given, ask, "ways", (("up", 0),), "tight"),
    "fewest": fewest,
    "road": lambda program, given, ask: road(program, given, ask, "least"),
    "road by another word": roadless,
    "is_road": lambda program, given, ask: is_road(program, given, ask, [(ask, ())]),
    "walks": walks,
}


class Asks(unittest.TestCase):
    def setUp(self):
        self.given = given_of(PROGRAM, THINGS)

    def test_no_cell(self):
        for name, asked in ASKS.items():
            for thing in NO_CELLS:
                with self.assertRaises(NoCell, msg=(name, thing)):
                    asked(PROGRAM, self.given, thing)
        self.assertEqual(self.given, THINGS)

    def test_no_cell_by_each_word_and_rule(self):
        for word in WORDS:
            for asked in (plain, answer, table):
                with self.assertRaises(NoCell):
                    asked(PROGRAM, self.given, at(0, 6), word)
        for rule in rules():
            with self.assertRaises(NoCell):
                is_right(PROGRAM, self.given, at(0, 6), rule)

    def test_cells(self):
        for name, asked in ASKS.items():
            for ask in (at(0, 0), at(0, 5)):
                asked(PROGRAM, self.given, ask)

    def test_by_the_given(self):
        for name, asked in ASKS.items():
            given = given_of(PROGRAM, {**THINGS, "count": 6})
            asked(PROGRAM, given, at(0, 6))
            asked(PROGRAM, given, at(2, 0))
            given["count"] = 5
            for ask in (at(0, 6), at(2, 0)):
                with self.assertRaises(NoCell, msg=name):
                    asked(PROGRAM, given, ask)

    def test_nothing_is_changed_and_the_same_is_told_again(self):
        for name, asked in ASKS.items():
            handed = (PROGRAM, self.given, at(0, 5))
            kept = copy.deepcopy(handed)
            first = copy.deepcopy(asked(*handed))
            second = asked(*handed)
            self.assertEqual(second, first, name)
            self.assertEqual(handed, kept, name)
            if isinstance(second, list):
                second.clear()
                self.assertEqual(asked(*handed), first, name)


if __name__ == "__main__":
    unittest.main()
