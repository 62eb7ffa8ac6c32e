"""Points 26 and 27: parameters exchanged and functions moved, in programs and in cells."""

import copy
import itertools
import unittest

from odd_things import ODD, nested
from roomtables.errors import NoTurn
from roomtables.givens import given_of
from roomtables.programs import program_of
from roomtables.tables import answer
from roomtables.turned import cell_exchanged, cell_moved, exchanged, moved
from writing import A, B, C, D, NONE, at, below, both, call, choose, each, every, gain, less, num, plus, times, when

E = ("own", 4)

NEEDS = (("count", "number"), ("line", "row"), ("word", "text"), ("knots", "tree"))

# All words stand here, and calls of each function in each body.
PROGRAM = program_of(NEEDS, (
    ("fa", (num(4), ("need", "count"), ("size", "line")), when(
        ("or", below(A, B), ("not", ("and", ("same", B, C), ("has", C, A)))),
        both(call(0, A, less(B, 1), C), call(1, C, A)),
        each(A, B, choose(gain(times(D, C)), every(D, C, call(0, E, D, A)), NONE)),
    )),
    ("fb", (("full", ("size", "word")), plus(("need", "count"), 1)), both(
        both(call(0, B, ("at", "line", A), ("kid", "knots", A, B)), call(1, ("without", A, B), ("rest", B, A))),
        both(call(2, ("kids", "knots", B)), each(B, ("half", A), gain(("greater", C, ("full", B))))),
    )),
    ("fc", (("size", "knots"),), choose(call(1, A, ("many", A)), call(0, ("with", A, num(2)), ("lesser", A, num(3)), A), call(2, A))),
))


def is_tuples(thing):
    """Whether a thing is made of tuples, texts and numbers alone."""
    return all(is_tuples(one) for one in thing) if isinstance(thing, tuple) else type(thing) in (str, int)


# What is no order of three places, whatever it is.
NO_ORDERS = [
    (), (0,), (0, 1), (0, 1, 2, 3), (0, 1, 1), (0, 0, 0), (1, 2, 3), (0, 1, 3), (-1, 0, 1), (0, 1, -1), (2, 1, -3), (0, True, 2),
    (False, 1, 2), (False, True, 2), (0, 1, "2"), (0, 1, None), (0, 1, (2,)), (0, 1, [2]), ("0", "1", "2"), [0, 1, 2], [2, 1, 0],
    "012", "abc", b"\x00\x01\x02", {0: 0, 1: 1, 2: 2}, {0, 1, 2}, range(3), 0, 1, 2, None, True, 10 ** 29, (0, 1, 10 ** 29),
    ((0, 1, 2),), (0, (1, 2)), nested(50, (0, 1, 2)), tuple(range(60)), (0, 1, 2) * 20, (0, 1, nested(50, 2)),
]

# What is no number of a function of three.
NO_NUMBERS = [3, 4, -1, -3, 10 ** 29, -10 ** 29, True, False, None, "0", "fa", b"0", (0,), [0], {0}, {0: 0}, (), [], nested(50, 0)]


class Exchanged(unittest.TestCase):
    def test_by_hand(self):
        told = exchanged(PROGRAM, 0, (1, 2, 0))
        self.assertEqual(told, (NEEDS, (
            ("fa", (("size", "line"), num(4), ("need", "count")), when(
                ("or", below(B, C), ("not", ("and", ("same", C, A), ("has", A, B)))),
                both(call(0, A, B, less(C, 1)), call(1, A, B)),
                each(B, C, choose(gain(times(D, A)), every(D, A, call(0, B, E, D)), NONE)),
            )),
            ("fb", PROGRAM[1][1][1], both(
                both(call(0, ("kid", "knots", A, B), B, ("at", "line", A)), call(1, ("without", A, B), ("rest", B, A))),
                PROGRAM[1][1][2][2],
            )),
            ("fc", PROGRAM[1][2][1], choose(
                call(1, A, ("many", A)), call(0, A, ("with", A, num(2)), ("lesser", A, num(3))), call(2, A),
            )),
        )))
        self.assertTrue(is_tuples(told))

    def test_two_places(self):
        told = exchanged(PROGRAM, 1, (1, 0))
        self.assertEqual(told[1][0], ("fa", PROGRAM[1][0][1], when(
            PROGRAM[1][0][2][1], both(call(0, A, less(B, 1), C), call(1, A, C)), PROGRAM[1][0][2][3],
        )))
        self.assertEqual(told[1][1], ("fb", (plus(("need", "count"), 1), ("full", ("size", "word"))), both(
            both(call(0, A, ("at", "line", B), ("kid", "knots", B, A)), call(1, ("rest", A, B), ("without", B, A))),
            both(call(2, ("kids", "knots", A)), each(A, ("half", B), gain(("greater", C, ("full", A))))),
        )))
        self.assertEqual(told[1][2][2][1][0], call(1, ("many", A), A))

    def test_the_order_as_it_is(self):
        for f, order in enumerate(((0, 1, 2), (0, 1), (0,))):
            self.assertEqual(exchanged(PROGRAM, f, order), PROGRAM)

    def test_the_order_back(self):
        for f, many in enumerate((3, 2, 1)):
            for order in itertools.permutations(range(many)):
                back = tuple(order.index(place) for place in range(many))
                told = exchanged(PROGRAM, f, order)
                self.assertEqual(exchanged(told, f, back), PROGRAM)
                self.assertEqual(told == PROGRAM, order == tuple(range(many)))
                self.assertEqual(program_of(*told), told)

    def test_one_behind_the_other(self):
        for one, other in itertools.product(itertools.permutations(range(3)), repeat=2):
            at_once = tuple(other[place] for place in one)
            self.assertEqual(exchanged(exchanged(PROGRAM, 0, one), 0, other), exchanged(PROGRAM, 0, at_once))

    def test_what_cannot_be_so(self):
        for order in NO_ORDERS + ODD:
            self.assertRaises(NoTurn, exchanged, PROGRAM, 0, order)
        for order in [(0,), (0, 1, 2), (1, 1), (True, False), [1, 0], (0, 2), (1, -2)] + ODD:
            self.assertRaises(NoTurn, exchanged, PROGRAM, 1, order)
        for order in [(), (1,), (False,), [0], (0, 1), (-1,), 0] + [one for one in ODD if one != (0,) or one[0] is False]:
            self.assertRaises(NoTurn, exchanged, PROGRAM, 2, order)
        for f in NO_NUMBERS + [one for one in ODD if type(one) is not int]:
            for order in ((0,), (1, 0), (0, 1, 2)):
                self.assertRaises(NoTurn, exchanged, PROGRAM, f, order)

    def test_the_program_stays(self):
        kept = copy.deepcopy(PROGRAM)
        first = exchanged(PROGRAM, 0, (2, 0, 1))
        self.assertEqual(PROGRAM, kept)
        self.assertEqual(exchanged(PROGRAM, 0, (2, 0, 1)), first)

    def test_answers(self):
        program = program_of((), (
            ("fa", (num(9), num(5)), when(below(A, 1), gain(B), both(gain(A), call(0, less(A, 1), ("half", B))))),
        ))
        turned = exchanged(program, 0, (1, 0))
        for arg, other in itertools.product(range(10), range(6)):
            due = answer(program, {}, at(0, arg, other), "sum")
            self.assertEqual(answer(turned, {}, at(0, other, arg), "sum"), due)
        self.assertEqual(answer(turned, {}, at(0, 5, 3), "sum"), 0)
        self.assertEqual(answer(turned, {}, at(0, 5, 2), "sum"), 2)


class Moved(unittest.TestCase):
    def test_by_hand(self):
        told = moved(PROGRAM, (1, 2, 0))
        fa, fb, fc = PROGRAM[1]
        self.assertEqual(told, (NEEDS, (
            ("fc", fc[1], choose(call(2, A, ("many", A)), call(1, ("with", A, num(2)), ("lesser", A, num(3)), A), call(0, A))),
            ("fa", fa[1], when(
                fa[2][1], both(call(1, A, less(B, 1), C), call(2, C, A)),
                each(A, B, choose(gain(times(D, C)), every(D, C, call(1, E, D, A)), NONE)),
            )),
            ("fb", fb[1], both(
                both(call(1, B, ("at", "line", A), ("kid", "knots", A, B)), call(2, ("without", A, B), ("rest", B, A))),
                both(call(0, ("kids", "knots", B)), each(B, ("half", A), gain(("greater", C, ("full", B))))),
            )),
        )))
        self.assertTrue(is_tuples(told))

    def test_the_order_as_it_is_and_back(self):
        for order in itertools.permutations(range(3)):
            told = moved(PROGRAM, order)
            back = tuple(order.index(place) for place in range(3))
            self.assertEqual(moved(told, back), PROGRAM)
            self.assertEqual(told == PROGRAM, order == (0, 1, 2))
            self.assertEqual(program_of(*told), told)
            for f in range(3):
                self.assertEqual(told[1][order[f]][:2], PROGRAM[1][f][:2])

    def test_one_function(self):
        program = program_of((), (("fa", (num(9),), call(0, A)),))
        self.assertEqual(moved(program, (0,)), program)
        for order in [(), (1,), (False,), [0], (0, 1), (-1,), 0] + [one for one in ODD if one != (0,) or one[0] is False]:
            self.assertRaises(NoTurn, moved, program, order)

    def test_what_cannot_be_so(self):
        for order in NO_ORDERS + ODD:
            self.assertRaises(NoTurn, moved, PROGRAM, order)

    def test_the_program_stays(self):
        kept = copy.deepcopy(PROGRAM)
        first = moved(PROGRAM, (2, 0, 1))
        self.assertEqual(PROGRAM, kept)
        self.assertEqual(moved(PROGRAM, (2, 0, 1)), first)

    def test_answers(self):
        program = program_of((("count", "number"),), (
            ("fa", (num(9),), when(below(A, 1), gain(("need", "count")), call(1, less(A, 1)))),
            ("fb", (num(9),), both(gain(A), call(0, A))),
        ))
        given = given_of(program, {"count": 100})
        for arg in range(10):
            for f in range(2):
                due = answer(program, given, at(f, arg), "least")
                self.assertEqual(answer(moved(program, (1, 0)), given, at(1 - f, arg), "least"), due)


class Cells(unittest.TestCase):
    def test_exchanged(self):
        self.assertEqual(cell_exchanged(at(0, 7, 8, 9), 0, (1, 2, 0)), at(0, 9, 7, 8))
        self.assertEqual(cell_exchanged(at(0, 7, 8, 9), 0, (2, 0, 1)), at(0, 8, 9, 7))
        self.assertEqual(cell_exchanged(at(0, 7, 8, 9), 0, (0, 1, 2)), at(0, 7, 8, 9))
        self.assertEqual(cell_exchanged(at(2, 7, 8), 2, (1, 0)), at(2, 8, 7))
        self.assertEqual(cell_exchanged(at(1, 7), 1, (0,)), at(1, 7))

    def test_one_of_another_function_stays(self):
        for cell in (at(0, 7, 8), at(0, 7), at(2, 7, 8, 9), at(3, 1)):
            self.assertEqual(cell_exchanged(cell, 1, (1, 0)), cell)
            self.assertEqual(cell_exchanged(cell, 1, (1, 2, 0)), cell)

    def test_moved(self):
        for f, due in enumerate((2, 0, 1)):
            self.assertEqual(cell_moved(at(f, 7, 8), (2, 0, 1)), at(due, 7, 8))
        self.assertEqual(cell_moved(at(0, 7), (0,)), at(0, 7))

    def test_whatever_numbers(self):
        for numbers in ((10 ** 29, -5), (-10 ** 29, 10 ** 29), (0, 0), (-1, 1)):
            self.assertEqual(cell_exchanged(at(1, *numbers), 1, (1, 0)), at(1, *reversed(numbers)))
            self.assertEqual(cell_exchanged(at(0, *numbers), 1, (1, 0)), at(0, *numbers))
            self.assertEqual(cell_moved(at(1, *numbers), (1, 0)), at(0, *numbers))

    def test_back(self):
        for order in itertools.permutations(range(3)):
            back = tuple(order.index(place) for place in range(3))
            self.assertEqual(cell_exchanged(cell_exchanged(at(1, 4, 5, 6), 1, order), 1, back), at(1, 4, 5, 6))
            self.assertEqual(cell_moved(cell_moved(at(1, 4, 5, 6), order), back), at(1, 4, 5, 6))

    def test_tuples(self):
        for told in (cell_exchanged(at(1, 4, 5), 1, (1, 0)), cell_exchanged(at(0, 4, 5), 1, (1, 0)), cell_moved(at(1, 4, 5), (1, 0))):
            self.assertEqual([type(told), type(told[1])], [tuple, tuple])


if __name__ == "__main__":
    unittest.main()
