"""Point 18: the calls of a program, and their gaps."""

import copy
import random
import unittest

import making
import oracle
from roomtables.cells import mosts_of
from roomtables.lines import calls_of, gap
from roomtables.programs import program_of
from roomtables.readings import calls
from roomtables.rules import rank
from test_rules import BITS, BITS1, BITS2, DOWN, DOWN1, DOWN2, KEYS, UP, UP1, UP2, WIDE, WIDE1
from writing import A, B, C, D, NONE, YES, both, call, choose, each, every, gain, half, less, num, plus, times, when

NEEDS = (("count", "number"), ("line", "row"), ("word", "text"), ("knots", "tree"))


def made(body, places=1):
    """A program whose functions 0 to 2 have one, two and three places, and whose function 3 has this body."""
    most = num(9)
    return program_of(NEEDS, (
        ("fa", (most,), gain(1)), ("fb", (most,) * 2, gain(1)), ("fc", (most,) * 3, gain(1)), ("fd", (most,) * places, body),
    ))


class Gaps(unittest.TestCase):
    def same(self, body, key, due, places=1, n=0):
        told = gap(made(body, places), 3, n, key)
        self.assertEqual(told, due, (body, key))
        self.assertIs(type(told), type(due))

    def by_keys(self, body, *due, places=1):
        for key, one in zip(KEYS, due):
            self.same(body, key, one, places)


class Calls(unittest.TestCase):
    def test_function_by_function_as_they_stand(self):
        program = program_of((), (
            ("fa", (num(9),), both(call(1, A, 1), choose(call(0, A), NONE, call(2, 1, 2, 3)))),
            ("fb", (num(9), num(9)), gain(1)),
            ("fc", (num(9), num(9), num(9)), each(0, 1, when(YES, call(2, A, B, D), every(0, 1, both(call(0, A), call(1, A, B)))))),
        ))
        kept = copy.deepcopy(program)
        due = [(0, 0, 1), (0, 1, 0), (0, 2, 2), (2, 0, 2), (2, 1, 0), (2, 2, 1)]
        told = calls_of(program)
        self.assertEqual(told, due)
        self.assertIs(type(told), list)
        told.clear()
        self.assertEqual(calls_of(program), due)
        self.assertEqual(program, kept)

    def test_none(self):
        self.assertEqual(calls_of(program_of((), (("fa", (num(9),), NONE),))), [])
        self.assertEqual(calls_of(program_of((), (("fa", (num(9),), gain(half(A))), ("fb", (num(1),), choose(NONE, NONE))))), [])

    def test_what_is_not_due_or_never_read_too(self):
        program = program_of((), (("fa", (num(9),), both(when(("not", YES), call(0, A), call(0, 1)), every(1, 0, call(0, 2)))),))
        self.assertEqual(calls_of(program), [(0, 0, 0), (0, 1, 0), (0, 2, 0)])

    def test_the_numbers_are_those_of_readings(self):
        chance = random.Random(31)
        for _ in range(200):
            program = making.a_program(chance)
            given = making.a_given(chance, program)
            standing = calls_of(program)
            self.assertEqual(standing, oracle.calls_of(program))
            for f, args in making.some_cells(chance, mosts_of(program, given), 2):
                for n, (g, _) in calls(program, given, (f, args)):
                    self.assertIn((f, n, g), standing)


class Lines(Gaps):
    """The gap by up 0 of a call of one arg is the greatest of the arg less the own number 0."""

    def test_lines(self):
        for arg, due in (
            (A, 0), (plus(A, 3), 3), (plus(3, A), 3), (less(A, 5), -5), (less(plus(A, 7), 2), 5), (less(A, less(2, 9)), 7),
            (less(plus(A, B), B), 0), (plus(less(B, B), A), 0), (plus(less(A, B), plus(B, -4)), -4),
            (times(1, A), 0), (times(A, 1), 0), (less(times(2, A), A), 0), (less(times(A, 3), plus(A, A)), 0),
            (times(less(3, 2), A), 0), (times(A, less(3, 2)), 0), (times(times(2, 3), 4), None), (plus(A, times(times(2, 3), 4)), 24),
            (less(times(plus(1, 1), plus(A, 3)), A), 6), (less(times(plus(A, 3), plus(1, 1)), A), 6),
            (times(times(A, 1), 1), 0), (times(1, times(1, A)), 0), (times(times(1, A), times(1, 1)), 0),
            (plus(A, times(0, B)), 0), (plus(A, times(B, 0)), 0), (plus(A, times(less(2, 2), B)), 0), (plus(A, times(-2, 3)), -6),
            (less(times(-1, B), times(-1, plus(A, B))), 0),
            (times(-1, times(A, -1)), 0), (plus(A, 10 ** 29), 10 ** 29), (less(A, 10 ** 29), -10 ** 29),
        ):
            self.same(call(0, arg), UP, due, 2)

    def test_with_other_factors(self):
        for arg in (B, plus(A, B), less(A, B), times(2, A), times(0, A), num(0), num(3), plus(A, A), times(-1, A), plus(A, times(2, B))):
            self.same(call(0, arg), UP, None, 2)
            self.same(call(0, arg), DOWN, None, 2)

    def test_no_lines(self):
        zero = lambda one: plus(A, times(0, one))
        for one in (
            half(A), ("rest", A, num(3)), ("lesser", A, A), ("greater", A, num(0)), ("at", "line", A), ("need", "count"),
            ("size", "line"), ("size", "knots"), ("full", num(0)), ("with", A, num(0)), ("without", A, num(0)), ("many", A),
            ("kids", "knots", A), ("kid", "knots", A, num(0)), ("full", ("size", "word")), half(num(2)), ("many", num(1)),
            times(A, B), times(A, A), times(less(A, A), B), times(B, less(A, A)), times(less(B, B), A),
            times(half(num(2)), A), times(A, half(num(2))), times(("need", "count"), A), times(plus(1, ("size", "line")), A),
            times(half(A), 0), times(0, half(A)), times(times(A, 1), B), times(times(1, 1), half(A)),
        ):
            for arg in (one, plus(one, A), plus(A, one), less(A, one), zero(one), less(plus(A, one), one), times(one, 1), times(1, one)):
                for key in (UP, DOWN, WIDE):
                    self.same(call(0, arg), key, None, 2)

    def test_great_rests(self):
        vast = times(times(10 ** 29, 10 ** 29), times(10 ** 29, 10 ** 29))
        self.same(call(0, plus(A, vast)), UP, 10 ** 116)
        self.same(call(0, plus(A, vast)), DOWN, -10 ** 116)
        self.same(call(0, less(A, times(vast, vast))), UP, -10 ** 232)
        self.same(call(0, less(plus(A, vast), vast)), UP, 0)
        self.same(each(0, 10 ** 29, call(0, plus(A, times(B, vast)))), UP, 10 ** 145)

    def test_numbers_of_thirty_figures(self):
        edge = 10 ** 30 - 1
        self.same(call(0, plus(A, edge)), UP, edge)
        self.same(call(0, less(A, edge)), DOWN, edge)


class Turns(Gaps):
    def test_high_where_the_factor_is_above_0(self):
        for turn in (each, every):
            self.same(turn(0, less(A, 1), call(0, B)), UP, -1)
            self.same(turn(0, 3, call(0, plus(A, B))), UP, 3)
            self.same(turn(0, 3, call(0, less(A, B))), DOWN, 3)
            self.same(turn(2, A, call(0, B)), UP, 0)
            self.same(turn(0, 7, call(0, B)), UP, None)

    def test_low_where_it_is_below_0(self):
        for turn in (each, every):
            self.same(turn(plus(A, 1), 9, call(0, B)), DOWN, -1)
            self.same(turn(1, 3, call(0, less(A, B))), UP, -1)
            self.same(turn(-2, 3, call(0, less(A, B))), UP, 2)
            self.same(turn(2, 3, call(0, plus(A, B))), DOWN, -2)
            self.same(turn(0, less(A, 1), call(0, B)), DOWN, None)

    def test_so_often(self):
        self.same(each(1, 3, call(0, plus(A, times(2, B)))), UP, 6)
        self.same(each(1, 3, call(0, plus(A, times(2, B)))), DOWN, -2)
        self.same(each(1, 3, call(0, less(A, times(5, B)))), UP, -5)
        self.same(each(1, 3, call(0, less(A, times(5, B)))), DOWN, 15)
        self.same(each(less(A, 2), A, call(0, less(times(2, B), A))), UP, 0)
        self.same(each(less(A, 2), A, call(0, less(times(2, B), A))), DOWN, 4)
        self.same(each(1, half(A), call(0, plus(A, times(2, B)))), UP, None)

    def test_where_high_or_low_is_no_line(self):
        for bad in (half(A), ("size", "line"), ("rest", A, num(2)), times(A, A)):
            self.same(each(0, bad, call(0, plus(A, B))), UP, None)
            self.same(each(0, bad, call(0, plus(A, B))), DOWN, 0)
            self.same(each(bad, 4, call(0, plus(A, B))), UP, 4)
            self.same(each(bad, 4, call(0, plus(A, B))), DOWN, None)
            self.same(each(bad, 4, call(0, less(A, B))), UP, None)
            self.same(each(bad, bad, call(0, B)), UP, None)

    def test_the_factor_0_is_not_asked(self):
        bad = half(A)
        for arg in (less(A, 1), plus(less(A, 1), times(0, B)), plus(less(B, B), less(A, 1)), less(plus(B, A), plus(1, B))):
            for turn in (each, every):
                self.same(turn(bad, bad, call(0, arg)), UP, -1)
                self.same(turn(bad, bad, turn(bad, bad, call(0, arg))), UP, -1)

    def test_the_last_one_first(self):
        self.same(each(0, less(A, 1), each(0, less(B, 1), call(0, C))), UP, -2)
        self.same(each(0, less(A, 1), every(B, A, call(0, plus(C, B)))), UP, None)
        self.same(each(1, 4, each(0, less(A, B), call(0, C))), UP, -1)
        self.same(each(1, 4, each(0, less(A, B), call(0, C))), DOWN, None)
        self.same(each(1, 4, each(plus(A, B), 9, call(0, C))), DOWN, -1)
        self.same(each(1, 4, each(0, 3, call(0, plus(less(A, B), C)))), UP, 2)
        self.same(each(1, 4, each(0, 3, call(0, plus(less(A, B), C)))), DOWN, 4)
        self.same(each(2, 4, each(0, times(2, B), call(0, less(plus(A, C), times(3, B))))), UP, -2)

    def test_a_turn_that_goes_with_the_last_one(self):
        """Behind the last one is taken away the factor of the other one may be 0, or come to be."""
        bad = half(A)
        self.same(each(bad, bad, each(plus(A, B), plus(A, B), call(0, less(C, B)))), UP, 0)
        self.same(each(bad, bad, each(0, B, call(0, plus(A, C)))), UP, None)
        self.same(each(0, 5, each(0, B, call(0, plus(A, C)))), UP, 5)
        self.same(each(0, 2, each(bad, bad, call(0, plus(A, B)))), UP, 2)
        self.same(each(0, 2, each(bad, 6, call(0, plus(A, less(C, B))))), UP, 6)
        self.same(each(0, 2, each(bad, bad, call(0, plus(A, less(C, B))))), UP, None)

    def test_the_turns_around_the_call_alone(self):
        body = both(each(0, 3, call(0, plus(A, B))), both(call(0, less(A, 1)), both(every(0, 5, call(0, plus(A, B))), call(0, A))))
        for n, due in enumerate((3, -1, 5, 0)):
            self.same(body, UP, due, n=n)
        body = each(0, 3, both(each(0, 8, call(0, plus(A, C))), both(call(0, plus(A, B)), each(0, 9, call(0, plus(A, C))))))
        for n, due in enumerate((8, 3, 9)):
            self.same(body, UP, due, n=n)

    def test_turns_of_more_places(self):
        self.same(each(0, 3, call(1, plus(A, C), B)), UP, 3, 2)
        self.same(each(0, 3, call(1, plus(A, C), less(B, C))), WIDE, 0, 2)
        self.same(each(A, less(B, 1), call(1, A, C)), WIDE, -1, 2)
        self.same(each(plus(A, 1), B, call(1, C, B)), WIDE, -1, 2)
        self.same(each(0, 3, call(2, A, B, plus(C, D))), UP2, 3, 3)


class Keys(Gaps):
    def test_one_place_and_one(self):
        self.by_keys(call(0, less(A, 2)), -2, 0, 0, 2, 0, 0, 2, 0, None, 0, 0)
        self.by_keys(call(0, A), 0, 0, 0, 0, 0, 0, 0, 0, 0, 0, 0)
        self.by_keys(call(0, half(A)), None, 0, 0, None, 0, 0, None, 0, None, 0, 0)
        self.by_keys(call(0, 4), None, 0, 0, None, 0, 0, None, 0, None, 0, 0)

    def test_two_places_and_two(self):
        self.by_keys(call(1, plus(A, 1), less(B, 3)), 1, -3, 0, -1, 3, 0, -4, 3, None, None, 0, places=2)
        self.by_keys(call(1, B, A), None, None, 0, None, None, 0, None, None, None, None, 0, places=2)
        self.by_keys(call(1, A, half(B)), 0, None, 0, 0, None, 0, None, None, 0, None, 0, places=2)
        self.by_keys(call(1, half(A), B), None, 0, 0, None, 0, 0, None, 0, None, 0, 0, places=2)
        self.by_keys(call(1, less(A, 0), B), 0, 0, 0, 0, 0, 0, 0, 0, None, 0, 0, places=2)
        # Wide 0 as a whole, though neither place has a gap.
        self.same(call(1, times(2, A), plus(B, A)), WIDE, 0, 2)
        self.same(call(1, 0, less(B, A)), WIDE, 0, 2)
        self.same(call(1, 5, plus(less(B, A), 2)), WIDE, -3, 2)

    def test_three_places_and_three(self):
        self.by_keys(call(2, less(A, 1), plus(B, 2), less(C, 4)), -1, 2, -4, 1, -2, 4, 3, -6, None, None, None, places=3)
        self.by_keys(call(2, A, B, C), 0, 0, 0, 0, 0, 0, 0, 0, 0, 0, 0, places=3)

    def test_where_g_has_more_places(self):
        self.by_keys(call(2, A, 4, -7), 0, 4, -7, 0, -4, 7, 4, -11, 0, None, None)
        self.by_keys(call(1, less(A, 1), plus(A, 2)), -1, None, 0, 1, None, 0, None, None, None, None, 0)
        self.by_keys(call(2, B, A, 6), None, None, 6, None, None, -6, None, None, None, None, None, places=2)

    def test_where_f_has_more_places(self):
        self.by_keys(call(0, less(A, 1)), -1, None, None, 1, None, None, None, None, None, 0, 0, places=3)
        self.by_keys(call(1, A, B), 0, 0, None, 0, 0, None, 0, None, 0, 0, 0, places=3)
        self.same(call(0, less(A, B)), WIDE, 0, 2)
        self.same(call(0, less(A, B)), WIDE, 0, 3)
        self.same(call(0, plus(less(A, B), 3)), WIDE, -3, 3)
        self.same(call(1, A, plus(less(B, C), 3)), WIDE1, -3, 3)

    def test_a_turn_is_no_place(self):
        """Own 1 is a turn here: the place 1 counts as 0."""
        self.by_keys(each(0, 5, call(1, A, B)), 0, 5, 0, 0, 0, 0, 5, 0, 0, None, 0)
        self.by_keys(each(2, 5, call(2, A, B, B)), 0, 5, 5, 0, -2, -2, 5, 0, 0, None, None)
        self.by_keys(each(0, 5, call(0, A)), 0, 0, 0, 0, 0, 0, 0, 0, 0, 0, 0)

    def test_bits(self):
        without = lambda one, bit: ("without", one, bit)
        for arg in (A, without(A, num(3)), without(without(A, B), half(A)), without(without(without(A, num(1)), A), num(99))):
            self.same(call(1, arg, B), BITS, 0, 2)
            self.same(call(1, B, arg), BITS1, None, 2)
        for arg in (B, without(B, num(3)), without(without(B, A), half(A))):
            self.same(call(1, A, arg), BITS1, 0, 2)
            self.same(call(1, arg, A), BITS, None, 2)
        for arg in (num(0), plus(A, 0), times(1, A), half(A), less(A, 1), ("with", A, num(1)), without(num(15), A),
                    without(half(A), num(1)), without(("with", A, num(0)), num(0)), ("with", without(A, num(0)), num(0)), without(B, A),
                    ("lesser", A, A), without(less(A, 1), num(1)), plus(without(A, num(1)), 0)):
            self.same(call(1, arg, B), BITS, None, 2)
        self.same(call(2, 0, 0, without(C, num(1))), BITS2, 0, 3)
        self.same(call(2, 0, 0, C), BITS2, 0, 3)
        self.same(call(2, 0, 0, C), BITS1, None, 3)

    def test_bits_where_a_place_is_not_there(self):
        self.same(call(0, half(A)), BITS1, 0, 3)
        self.same(call(0, half(A)), BITS2, 0, 3)
        self.same(call(1, half(A), half(B)), BITS2, 0, 3)
        self.same(call(2, A, 0, 0), BITS1, None)
        self.same(each(0, 3, call(1, A, B)), BITS1, None)
        self.same(each(0, 3, each(0, 3, call(2, A, B, C))), BITS2, None)
        self.same(each(0, 3, call(1, ("without", A, B), 0)), BITS, 0)

    def test_wide_wants_both(self):
        self.same(call(2, half(A), B, C), WIDE, None, 3)
        self.same(call(2, half(A), B, C), WIDE1, 0, 3)
        self.same(call(2, A, half(B), C), WIDE, None, 3)
        self.same(call(2, A, half(B), C), WIDE1, None, 3)
        self.same(call(2, A, B, half(C)), WIDE, 0, 3)
        self.same(call(2, A, B, half(C)), WIDE1, None, 3)

    def test_of_other_functions(self):
        program = program_of((), (
            ("fa", (num(9),), both(call(1, plus(A, 1), 2), call(0, less(A, 1)))),
            ("fb", (num(9), num(9)), both(gain(1), call(0, plus(A, 4)))),
        ))
        kept = copy.deepcopy(program)
        for f, n, key, due in ((0, 0, UP, 1), (0, 0, UP1, 2), (0, 1, UP, -1), (1, 0, UP, 4), (1, 0, UP1, None), (1, 0, DOWN1, None),
                               (1, 0, DOWN2, 0)):
            for _ in range(2):
                self.assertEqual(gap(program, f, n, key), due)
        self.assertEqual(program, kept)


class TheEnd(unittest.TestCase):
    def test_no_called_number_is_above_by_more_than_the_gap(self):
        chance = random.Random(32)
        seen = {key: 0 for key in KEYS}
        for n in range(700):
            program = making.a_falling_program(chance) if n % 3 else making.a_program(chance)
            given = making.a_given(chance, program)
            for cell in making.some_cells(chance, mosts_of(program, given), 3):
                for number, called in calls(program, given, cell):
                    for key in KEYS:
                        most = gap(program, cell[0], number, key)
                        if most is not None:
                            seen[key] += 1
                            self.assertLessEqual(rank((key,), called)[0], rank((key,), cell)[0] + most)
        self.assertGreater(min(seen.values()), 100)

    def test_as_the_tests_reckon_gaps(self):
        chance = random.Random(33)
        told = set()
        for n in range(700):
            program = making.a_lined_program(chance)
            for f, number, g in calls_of(program):
                for key in KEYS:
                    due = oracle.gap(program, f, number, key)
                    self.assertEqual(gap(program, f, number, key), due, (program, f, number, key))
                    told.add((key, due))
        for key in KEYS[:8]:
            self.assertGreater(len([one for one in told if one[0] == key]), 10)


if __name__ == "__main__":
    unittest.main()
