"""Point 12: the calls, the wants and the fault of a cell's reading."""

import copy
import unittest

from roomtables.givens import given_of
from roomtables.programs import program_of
from roomtables.readings import calls, fault_of, wants

NEEDS = (("count", "number"), ("line", "row"))
THINGS = {"count": 2, "line": [3, 0, 5]}
A, B, C = ("own", 0), ("own", 1), ("own", 2)
NONE = ("none",)
GREAT = ("times", ("times", ("num", 10 ** 29), ("num", 10 ** 29)), ("num", 1000))
NOUGHT = ("rest", ("num", 1), ("num", 0))
PLACE = ("full", ("num", 13))
FAULTS = ((GREAT, "great"), (NOUGHT, "nought"), (PLACE, "place"))


def num(n):
    return ("num", n)


def gain(n):
    return ("gain", num(n))


def fa(one):
    """A call of the first function, with one arg."""
    return ("call", 0, (num(one) if isinstance(one, int) else one,))


def fb(one, other):
    """A call of the second function, with two args."""
    return ("call", 1, (num(one) if isinstance(one, int) else one, num(other) if isinstance(other, int) else other))


def choose(*bodies):
    return ("choose", bodies)


YES = ("same", num(1), num(1))
NO = ("same", num(1), num(2))


class Readings(unittest.TestCase):
    def told(self, body, arg=5, **changed):
        """The calls, wants and fault of a cell of the first function with this body."""
        program = program_of(NEEDS, (("fa", (num(20),), body), ("fb", (num(20), ("need", "count")), gain(1))))
        given = given_of(program, {**THINGS, **changed})
        kept = copy.deepcopy(given)
        cell = (0, (arg,))
        told = (calls(program, given, cell), wants(program, given, cell), fault_of(program, given, cell))
        self.assertEqual(given, kept)
        self.assertEqual([type(one) for one in told[:2]], [list, list])
        return told

    def reads(self, body, due, fault=None, arg=5, **changed):
        """The calls are as due, and the fault."""
        told, cells, ending = self.told(body, arg, **changed)
        self.assertEqual(told, due)
        self.assertEqual(ending, fault)
        for cell in cells:
            self.assertEqual(cells.count(cell), 1)
        self.assertEqual(set(cells), {cell for number, cell in due})
        firsts = [[cell for number, cell in due].index(cell) for cell in cells]
        self.assertEqual(firsts, sorted(firsts))


class Words(Readings):
    def test_without_calls(self):
        for body in (gain(3), NONE, ("both", gain(1), NONE), choose(NONE), ("each", num(1), num(3), NONE),
                     ("all", num(1), num(3), gain(0)), ("if", YES, gain(1), NONE)):
            self.reads(body, [])

    def test_a_call(self):
        self.reads(fa(3), [(0, (0, (3,)))])
        self.reads(fa(("less", A, num(1))), [(0, (0, (4,)))])
        self.reads(fa(A), [(0, (0, (5,)))])
        self.reads(fb(A, num(2)), [(0, (1, (5, 2)))])
        self.reads(fb(num(2), num(1)), [(0, (1, (2, 1)))])

    def test_both_from_left_to_right(self):
        self.reads(("both", fa(3), fb(1, 2)), [(0, (0, (3,))), (1, (1, (1, 2)))])
        self.reads(("both", fb(1, 2), fa(3)), [(0, (1, (1, 2))), (1, (0, (3,)))])
        self.reads(("both", ("both", fa(1), fa(2)), fa(3)), [(0, (0, (1,))), (1, (0, (2,))), (2, (0, (3,)))])

    def test_all_bodies_of_a_choose(self):
        self.reads(choose(fa(3), fa(1), NONE, fa(2)), [(0, (0, (3,))), (1, (0, (1,))), (2, (0, (2,)))])
        self.reads(choose(fa(3)), [(0, (0, (3,)))])

    def test_no_worth_ends_a_reading(self):
        self.reads(("both", NONE, fa(3)), [(0, (0, (3,)))])
        self.reads(("both", NONE, ("both", gain(0), fa(3))), [(0, (0, (3,)))])
        self.reads(("all", num(0), num(2), ("both", NONE, fa(B))), [(0, (0, (n,))) for n in range(3)])

    def test_the_part_that_is_due(self):
        self.reads(("if", YES, fa(3), fa(4)), [(0, (0, (3,)))])
        self.reads(("if", NO, fa(3), fa(4)), [(1, (0, (4,)))])
        self.reads(("if", ("below", A, num(6)), fa(3), fa(4)), [(0, (0, (3,)))], arg=5)
        self.reads(("if", ("below", A, num(6)), fa(3), fa(4)), [(1, (0, (4,)))], arg=6)

    def test_what_is_not_due_is_not_read(self):
        for one, fault in FAULTS:
            self.reads(("if", YES, fa(3), ("gain", one)), [(0, (0, (3,)))])
            self.reads(("if", NO, ("gain", one), fa(3)), [(0, (0, (3,)))])
        self.reads(("if", YES, fa(3), fa(21)), [(0, (0, (3,)))])
        self.reads(("if", NO, ("each", num(1), num(50), NONE), fa(3)), [(0, (0, (3,)))])

    def test_the_same_cell_more_than_once(self):
        told, cells, fault = self.told(("both", fa(3), ("both", fa(1), ("both", fa(3), fa(2)))))
        self.assertEqual(told, [(0, (0, (3,))), (1, (0, (1,))), (2, (0, (3,))), (3, (0, (2,)))])
        self.assertEqual(cells, [(0, (3,)), (0, (1,)), (0, (2,))])
        self.assertIsNone(fault)

    def test_its_own_cell(self):
        told, cells, fault = self.told(("both", fa(A), fa(A)))
        self.assertEqual((told, cells), ([(0, (0, (5,))), (1, (0, (5,)))], [(0, (5,))]))

    def test_args_and_given(self):
        self.reads(fa(("at", "line", num(0))), [(0, (0, (3,)))])
        self.reads(fa(("at", "line", num(0))), [(0, (0, (9,)))], line=[9])
        self.reads(fa(("need", "count")), [(0, (0, (7,)))], count=7)

    def test_the_second_function(self):
        program = program_of((), (
            ("fa", (num(3),), gain(1)),
            ("fb", (num(3), num(9)), ("both", ("call", 0, (A,)), ("call", 1, (A, ("less", B, A))))),
        ))
        given = given_of(program, {})
        self.assertEqual(calls(program, given, (1, (2, 9))), [(0, (0, (2,))), (1, (1, (2, 7)))])
        self.assertEqual(wants(program, given, (1, (0, 9))), [(0, (0,)), (1, (0, 9))])
        self.assertEqual(calls(program, given, (0, (2,))), [])
        self.assertEqual(fault_of(program, given, (1, (3, 2))), "beyond")


class Numbers(Readings):
    def test_numbers_as_they_stand(self):
        body = ("both", ("if", NO, ("both", fa(1), fa(2)), fa(3)), choose(fa(4), ("if", YES, fa(5), fa(6)), fa(7)))
        self.reads(body, [(2, (0, (3,))), (3, (0, (4,))), (4, (0, (5,))), (6, (0, (7,)))])

    def test_numbers_in_turns(self):
        body = ("both", fa(9), ("both", ("each", num(1), num(2), ("both", fa(B), fb(B, 0))), fa(8)))
        self.reads(body, [
            (0, (0, (9,))), (1, (0, (1,))), (2, (1, (1, 0))), (1, (0, (2,))), (2, (1, (2, 0))), (3, (0, (8,))),
        ])

    def test_numbers_behind_turns_that_are_none(self):
        body = ("both", ("all", num(1), num(0), ("both", fa(1), fa(2))), fa(3))
        self.reads(body, [(2, (0, (3,)))])

    def test_a_call_that_stands_twice(self):
        same = fa(3)
        self.reads(("both", same, ("if", NO, same, same)), [(0, (0, (3,))), (2, (0, (3,)))])

    def test_calls_within_ifs_within_turns(self):
        body = ("all", num(0), num(3), ("if", ("below", B, num(2)), fa(B), ("if", ("same", B, num(2)), fa(7), fa(8))))
        self.reads(body, [(0, (0, (0,))), (0, (0, (1,))), (1, (0, (7,))), (2, (0, (8,)))])


class Turns(Readings):
    def test_rising(self):
        for word in ("each", "all"):
            self.reads((word, num(2), num(5), fa(B)), [(0, (0, (n,))) for n in range(2, 6)])
            self.reads((word, num(-2), num(1), fa(("plus", B, num(2)))), [(0, (0, (n,))) for n in range(4)])
            self.reads((word, A, A, fa(B)), [(0, (0, (5,)))])

    def test_none_where_low_is_above_high(self):
        for word in ("each", "all"):
            for low, high in ((1, 0), (5, -5), (10 ** 29, -10 ** 29), (10 ** 29, 3)):
                self.reads((word, num(low), num(high), fa(21)), [])
                self.reads(("both", (word, num(low), num(high), fa(21)), fa(3)), [(1, (0, (3,)))])

    def test_sixteen_and_seventeen(self):
        for word in ("each", "all"):
            self.reads((word, num(0), num(15), fa(B)), [(0, (0, (n,))) for n in range(16)])
            self.reads((word, num(0), num(16), fa(B)), [], "wide")
            self.reads((word, num(3), num(18), fa(B)), [(0, (0, (n,))) for n in range(3, 19)])
            self.reads((word, num(-8), num(8), gain(1)), [], "wide")
            self.reads((word, num(-8), num(7), gain(1)), [])
            self.reads((word, num(-10 ** 29), num(10 ** 29), gain(1)), [], "wide")
            self.reads((word, num(10 ** 29), num(10 ** 29 + 15), fa(("less", B, num(10 ** 29)))),
                       [(0, (0, (n,))) for n in range(16)])

    def test_wide_ends_the_reading(self):
        wide = ("each", num(0), num(16), NONE)
        self.reads(("both", fa(1), ("both", wide, fa(2))), [(0, (0, (1,)))], "wide")
        self.reads(choose(fa(1), wide, fa(2)), [(0, (0, (1,)))], "wide")

    def test_turns_within_a_turn(self):
        for outer in ("each", "all"):
            for inner in ("each", "all"):
                body = (outer, num(0), num(2), (inner, B, num(2), fa(("plus", ("times", B, num(3)), C))))
                self.reads(body, [(0, (0, (n,))) for n in (0, 1, 2, 4, 5, 8)])
                body = (outer, num(0), num(2), (inner, num(0), B, fa(("plus", ("times", B, num(3)), C))))
                self.reads(body, [(0, (0, (n,))) for n in (0, 3, 4, 6, 7, 8)])

    def test_the_turn_is_gone_behind_its_body(self):
        body = ("both", ("each", num(1), num(2), fa(B)), ("all", num(7), num(8), fa(B)))
        self.reads(body, [(0, (0, (1,))), (0, (0, (2,))), (1, (0, (7,))), (1, (0, (8,)))])

    def test_a_fault_in_a_turn(self):
        for word in ("each", "all"):
            self.reads((word, num(19), num(23), fa(B)), [(0, (0, (19,))), (0, (0, (20,)))], "beyond")
            body = (word, num(0), num(3), ("both", fa(B), ("gain", ("rest", num(1), ("less", num(2), B)))))
            self.reads(body, [(0, (0, (n,))) for n in range(3)], "nought")
            nest = (word, num(0), num(2), (word, num(0), num(1), ("both", fa(C), ("gain", ("rest", C, ("less", num(1), B))))))
            self.reads(nest, [(0, (0, (0,))), (0, (0, (1,))), (0, (0, (0,)))], "nought")

    def test_faults_of_low_and_high(self):
        for word in ("each", "all"):
            for one, fault in FAULTS:
                self.reads((word, one, num(3), fa(1)), [], fault)
                self.reads((word, num(3), one, fa(1)), [], fault)
                self.reads(("both", fa(2), (word, num(3), one, fa(1))), [(0, (0, (2,)))], fault)
                for other, behind in FAULTS:
                    self.reads((word, one, other, fa(1)), [], fault)


class Beyond(Readings):
    def test_where_there_is_no_such_cell(self):
        for arg in (-1, 21, 10 ** 29, -10 ** 29):
            self.reads(fa(arg), [], "beyond")
        for arg in (0, 20):
            self.reads(fa(arg), [(0, (0, (arg,)))])
        for one, other in ((0, 3), (0, -1), (21, 0), (-1, 0)):
            self.reads(fb(one, other), [], "beyond")
        for one, other in ((0, 2), (20, 0), (20, 2)):
            self.reads(fb(one, other), [(0, (1, (one, other)))])

    def test_where_a_most_is_below_0(self):
        self.reads(fb(0, 0), [], "beyond", count=-1)
        self.reads(fb(0, 0), [(0, (1, (0, 0)))], count=0)

    def test_it_ends_the_reading(self):
        self.reads(("both", fa(1), ("both", fa(21), fa(2))), [(0, (0, (1,)))], "beyond")
        self.reads(choose(fa(1), fa(-1), fa(2)), [(0, (0, (1,)))], "beyond")

    def test_faults_of_args_go_ahead(self):
        for one, fault in FAULTS:
            self.reads(fa(one), [], fault)
            self.reads(fb(one, 99), [], fault)
            self.reads(fb(99, one), [], fault)
            for other, behind in FAULTS:
                self.reads(fb(one, other), [], fault)


class Faults(Readings):
    def test_of_sums_and_conditions(self):
        for one, fault in FAULTS:
            for bad in (("gain", one), ("if", ("same", num(1), one), fa(7), fa(8)), fa(one), ("each", one, num(1), fa(7)),
                        ("if", ("or", YES, ("below", one, num(1))), fa(7), fa(8)),
                        ("if", ("and", NO, ("below", one, num(1))), fa(7), fa(8))):
                self.reads(bad, [], fault)
                self.reads(("both", fa(1), bad), [(0, (0, (1,)))], fault)
                self.reads(("both", bad, fa(1)), [], fault)
                self.reads(choose(fa(1), fa(2), bad, fa(3)), [(0, (0, (1,))), (1, (0, (2,)))], fault)
                self.reads(("both", ("both", fa(1), bad), fa(3)), [(0, (0, (1,)))], fault)
                self.reads(("all", num(0), num(3), ("both", fa(B), bad)), [(0, (0, (0,)))], fault)
                self.reads(("if", YES, ("both", fa(1), bad), NONE), [(0, (0, (1,)))], fault)

    def test_the_first_fault_alone_is_told(self):
        for one, fault in FAULTS:
            for other, behind in FAULTS:
                self.reads(("both", ("gain", one), ("gain", other)), [], fault)
                self.reads(choose(fa(2), ("gain", one), ("gain", other)), [(0, (0, (2,)))], fault)
            self.reads(("both", ("gain", one), fa(21)), [], fault)
            self.reads(("both", fa(21), ("gain", one)), [], "beyond")
            self.reads(("both", ("each", num(0), num(16), NONE), ("gain", one)), [], "wide")

    def test_a_fault_of_the_own_numbers(self):
        body = ("both", fa(0), ("gain", ("at", "line", A)))
        for arg in (0, 1, 2):
            self.reads(body, [(0, (0, (0,)))], arg=arg)
        self.reads(body, [(0, (0, (0,)))], "place", arg=3)


class Told(Readings):
    def test_what_is_told_is_the_askers_own(self):
        program = program_of((), (("fa", (num(9),), ("both", fa(1), fa(2))),))
        given = given_of(program, {})
        for asked in (calls, wants):
            told = asked(program, given, (0, (5,)))
            kept = list(told)
            told.append(None)
            told[0] = None
            self.assertEqual(asked(program, given, (0, (5,))), kept)

    def test_a_changed_given(self):
        program = program_of(NEEDS, (("fa", (num(9),), fa(("at", "line", num(0)))),))
        given = given_of(program, THINGS)
        told = calls(program, given, (0, (5,)))
        given["line"][0] = 7
        self.assertEqual(told, [(0, (0, (3,)))])
        self.assertEqual(calls(program, given, (0, (5,))), [(0, (0, (7,)))])


if __name__ == "__main__":
    unittest.main()
