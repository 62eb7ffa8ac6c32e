"""Point 11: what mosts come to, and which things are cells."""

import unittest

from odd_things import ODD
from roomtables.cells import is_cell, mosts_of
from roomtables.givens import given_of
from roomtables.programs import program_of

BODY = ("gain", ("num", 1))
NEEDS = (("count", "number"), ("line", "row"), ("word", "text"), ("knots", "tree"))
THINGS = {"count": 5, "line": [7, 8, 9], "word": "ab", "knots": (0, 0, 1)}


def made(*mosts_of_each):
    names = ("fa", "fb", "fc", "fd")
    return program_of(NEEDS, tuple((name, mosts, BODY) for name, mosts in zip(names, mosts_of_each)))


def given(program, **changed):
    return given_of(program, {**THINGS, **changed})


class Mosts(unittest.TestCase):
    def told(self, most, **changed):
        program = made((most,))
        told = mosts_of(program, given(program, **changed))
        self.assertIs(type(told), list)
        self.assertEqual([type(one) for one in told], [tuple])
        self.assertEqual(len(told[0]), 1)
        return told[0][0]

    def test_words(self):
        self.assertEqual(self.told(("num", 0)), 0)
        self.assertEqual(self.told(("num", 10 ** 29)), 10 ** 29)
        self.assertEqual(self.told(("need", "count")), 5)
        self.assertEqual(self.told(("need", "count"), count=-3), -3)
        self.assertEqual(self.told(("need", "count"), count=-10 ** 29), -10 ** 29)
        self.assertEqual(self.told(("size", "line")), 3)
        self.assertEqual(self.told(("size", "line"), line=[]), 0)
        self.assertEqual(self.told(("size", "word")), 2)
        self.assertEqual(self.told(("size", "word"), word=""), 0)
        self.assertEqual(self.told(("size", "knots")), 4)
        self.assertEqual(self.told(("size", "knots"), knots=()), 1)
        self.assertEqual(self.told(("full", ("size", "line"))), 7)
        self.assertEqual(self.told(("full", ("size", "line")), line=[]), 0)
        self.assertEqual(self.told(("full", ("size", "line")), line=[0] * 12), 4095)
        self.assertEqual(self.told(("full", ("size", "word"))), 3)
        self.assertEqual(self.told(("full", ("size", "knots")), knots=(0,) * 11), 4095)
        self.assertEqual(self.told(("plus", ("need", "count"), ("num", 4))), 9)
        self.assertEqual(self.told(("less", ("need", "count"), ("num", 4))), 1)
        self.assertEqual(self.told(("less", ("num", 4), ("need", "count"))), -1)
        self.assertEqual(self.told(("less", ("size", "line"), ("plus", ("num", 1), ("full", ("size", "word"))))), -1)

    def test_in_order(self):
        program = made((("num", 1),), (("num", 2), ("need", "count"), ("size", "word")), (("num", 4), ("num", 3)))
        self.assertEqual(mosts_of(program, given(program)), [(1,), (2, 5, 2), (4, 3)])

    def test_what_is_told_is_the_askers_own(self):
        program = made((("num", 1),))
        one = given(program)
        told = mosts_of(program, one)
        told.append((9,))
        told[0] = (8,)
        self.assertEqual(mosts_of(program, one), [(1,)])
        self.assertIs(is_cell(program, one, (0, (8,))), False)
        self.assertEqual(one, THINGS)

    def test_a_changed_given(self):
        program = made((("need", "count"),))
        one = given(program)
        self.assertEqual(mosts_of(program, one), [(5,)])
        one["count"] = 2
        self.assertEqual(mosts_of(program, one), [(2,)])
        self.assertIs(is_cell(program, one, (0, (3,))), False)


class Cells(unittest.TestCase):
    def setUp(self):
        self.program = made((("num", 3),), (("num", 2), ("need", "count")), (("num", 0), ("size", "word"), ("num", 1)))
        self.given = given(self.program)

    def told(self, thing):
        return is_cell(self.program, self.given, thing)

    def test_each_number_at_its_edges(self):
        ends = [(3,), (2, 5), (0, 2, 1)]
        for f, mosts in enumerate(ends):
            for at, most in enumerate(mosts):
                for number in (-10 ** 29, -most - 1, -2, -1, 0, most, most + 1, most + 2, 10 ** 29):
                    for others in (0, None):
                        args = tuple(
                            number if place == at else (0 if others == 0 else end) for place, end in enumerate(mosts)
                        )
                        self.assertIs(self.told((f, args)), 0 <= number <= most, (f, args))

    def test_all_of_a_function(self):
        found = [(f, (a, b)) for f in (-1, 0, 1, 2, 3) for a in range(-2, 5) for b in range(-2, 8) if self.told((f, (a, b)))]
        self.assertEqual(found, [(1, (a, b)) for a in range(3) for b in range(6)])

    def test_another_functions_number(self):
        self.assertIs(self.told((0, (1,))), True)
        for f in (-3, -2, -1, 1, 2, 3, 4, 10 ** 29, -10 ** 29):
            self.assertIs(self.told((f, (1,))), False, f)
        for f in (True, False, None, "0", "fa", (0,), [0], b"0", {}):
            self.assertIs(self.told((f, (1,))), False, f)
            self.assertIs(self.told((f, (1, 1))), False, f)

    def test_numbers_of_functions_by_all_counts_of_args(self):
        for f in range(-7, 8):
            for count in range(5):
                self.assertIs(self.told((f, (0,) * count)), f in (0, 1, 2) and count == f + 1, (f, count))

    def test_too_many_and_too_few(self):
        for f, many in ((0, 1), (1, 2), (2, 3)):
            for count in range(6):
                self.assertIs(self.told((f, (0,) * count)), count == many, (f, count))
        self.assertIs(self.told((0,)), False)
        self.assertIs(self.told((0, (1,), (1,))), False)
        self.assertIs(self.told((0, (1,), None)), False)

    def test_truths_and_lists(self):
        for thing in ((0, (True,)), (0, (False,)), (1, (0, True)), (1, (True, 0)), (0, [1]), [0, (1,)], [0, [1]], (0, 1),
                      (0, "1"), (0, ("1",)), (0, (None,)), (0, ((1,),)), (0, ([1],)), (0, {1}), (0, {1: 1}), (0, b"\x01"),
                      ((1,), 0), {0: (1,)}, ("fa", (1,)), "fa(1)"):
            self.assertIs(self.told(thing), False, thing)

    def test_odd_things(self):
        for thing in ODD:
            self.assertIs(self.told(thing), False, repr(thing)[:80])
            number = isinstance(thing, int) and not isinstance(thing, bool)
            self.assertIs(self.told((0, thing)), isinstance(thing, tuple) and thing == (0,), repr(thing)[:80])
            self.assertIs(self.told((0, (thing,))), number and 0 <= thing <= 3, repr(thing)[:80])
            self.assertIs(self.told((thing, (0,))), number and thing == 0, repr(thing)[:80])

    def test_no_cells_where_a_most_is_below_0(self):
        program = made((("need", "count"),), (("num", 2), ("need", "count")), (("num", 2),))
        one = given(program, count=-1)
        for number in (-2, -1, 0, 1):
            self.assertIs(is_cell(program, one, (0, (number,))), False)
            for other in (-1, 0, 1):
                self.assertIs(is_cell(program, one, (1, (other, number))), False)
        self.assertIs(is_cell(program, one, (2, (0,))), True)
        one["count"] = 0
        self.assertIs(is_cell(program, one, (0, (0,))), True)
        self.assertIs(is_cell(program, one, (1, (2, 0))), True)

    def test_no_cells_where_a_most_has_a_fault(self):
        program = made((("need", "count"),), (("num", 2),))
        one = given(program, count=10 ** 60)
        self.assertEqual(mosts_of(program, one), [("great",), (2,)])
        self.assertIs(is_cell(program, one, (0, (0,))), False)
        self.assertIs(is_cell(program, one, (1, (2,))), True)

    def test_great_mosts(self):
        program = made((("num", 10 ** 29),))
        one = given(program)
        self.assertIs(is_cell(program, one, (0, (10 ** 29,))), True)
        self.assertIs(is_cell(program, one, (0, (10 ** 29 + 1,))), False)


if __name__ == "__main__":
    unittest.main()
