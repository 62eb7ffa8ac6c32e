"""Point 15: the wanted cells, and an order of them or a ring."""

import copy
import unittest

from roomtables.errors import TooGreat
from roomtables.givens import given_of
from roomtables.orders import order_or_ring, wanted
from roomtables.programs import program_of
from roomtables.readings import wants
from writing import A, B, ENDING, NO, NONE, NOUGHT, YES
from writing import at, below, both, call, choose, each, every, gain, half, less, num, plus, same, when

FIB = when(below(A, 2), gain(1), choose(call(0, less(A, 1)), call(0, less(A, 2))))


def one_of(body, most=300):
    """A program of one function with one place."""
    return program_of((), (("fa", (num(most),), body),))


def cells(*numbers):
    return [at(0, n) for n in numbers]


class Orders(unittest.TestCase):
    def checked(self, program, ask, things=None):
        """What is told of an ask, having been looked at row by row."""
        given = given_of(program, things or {})
        kept = copy.deepcopy(given)
        told = order_or_ring(program, given, ask)
        all_wanted = wanted(program, given, ask)
        self.assertEqual(given, kept)
        self.assertIs(type(told), tuple)
        self.assertEqual((len(told), type(told[1]), type(all_wanted)), (2, list, list))
        kind, row = told
        self.assertIn(kind, ("order", "ring"))
        self.assertEqual(all_wanted, sorted(all_wanted))
        self.assertEqual(len(set(row)), len(row))
        if kind == "order":
            self.assertEqual(sorted(row), all_wanted)
            for place, cell in enumerate(row):
                for want in wants(program, given, cell):
                    self.assertIn(want, row[:place])
        else:
            self.assertNotEqual(row, [])
            for cell, after in zip(row, row[1:] + row[:1]):
                self.assertIn(cell, all_wanted)
                self.assertIn(after, wants(program, given, cell))
        return told

    def ordered(self, program, ask, due):
        """There is an order, of just these cells, and they are the wanted ones."""
        kind, row = self.checked(program, ask)
        self.assertEqual(kind, "order")
        self.assertEqual(sorted(row), due)
        self.assertEqual(wanted(program, given_of(program, {}), ask), due)

    def ringed(self, program, ask, among, all_wanted):
        """There is a ring, with just the cells of one of these rows, from whichever on."""
        kind, row = self.checked(program, ask)
        self.assertEqual(kind, "ring")
        turned = [row[n:] + row[:n] for n in range(len(row))]
        self.assertTrue(any(one in turned for one in among), row)
        self.assertEqual(wanted(program, given_of(program, {}), ask), all_wanted)


class Wanted(Orders):
    def test_the_ask_alone(self):
        for body in (gain(1), NONE, every(1, 0, call(0, A)), when(YES, gain(1), call(0, A))):
            self.ordered(one_of(body), at(0, 5), cells(5))

    def test_all_that_it_hangs_on(self):
        self.ordered(one_of(FIB), at(0, 6), cells(0, 1, 2, 3, 4, 5, 6))
        self.ordered(one_of(FIB), at(0, 1), cells(1))
        self.ordered(one_of(when(same(A, 0), gain(1), call(0, half(A)))), at(0, 100), cells(0, 1, 3, 6, 12, 25, 50, 100))

    def test_sorted(self):
        program = program_of((), (
            ("fa", (num(20),), when(below(A, 11), gain(1), choose(call(1, 3, A), call(0, less(A, 9)), call(1, 3, 2), call(1, 10, 2)))),
            ("fb", (num(20), num(20)), when(below(A, 10), gain(1), call(0, B))),
        ))
        due = [at(0, 2), at(0, 5), at(0, 14), at(1, 3, 2), at(1, 3, 14), at(1, 10, 2)]
        self.ordered(program, at(0, 14), due)

    def test_what_is_read_ahead_of_a_fault_alone(self):
        for bad, fault in ENDING:
            program = one_of(when(same(A, 9), both(call(0, 1), both(bad, call(0, 2))), gain(1)))
            self.ordered(program, at(0, 9), cells(1, 9))

    def test_what_a_fault_of_a_call_does_not_end(self):
        program = one_of(when(same(A, 9), both(call(0, 1), call(0, 2)), gain(NOUGHT)))
        self.ordered(program, at(0, 9), cells(1, 2, 9))

    def test_what_is_not_due(self):
        self.ordered(one_of(when(same(A, 9), when(NO, call(0, 1), call(0, 2)), gain(1))), at(0, 9), cells(2, 9))

    def test_by_the_given(self):
        program = program_of((("line", "row"),), (("fa", (num(9),), every(0, less(("size", "line"), 1), when(
            same(A, 9), call(0, ("at", "line", B)), gain(1)))),))
        given = given_of(program, {"line": [5, 3, 5]})
        self.assertEqual(wanted(program, given, at(0, 9)), cells(3, 5, 9))
        self.assertEqual(self.checked(program, at(0, 9), {"line": [5, 3, 5]})[0], "order")
        given["line"][1] = 4
        self.assertEqual(wanted(program, given, at(0, 9)), cells(4, 5, 9))
        self.assertEqual(self.checked(program, at(0, 9), {"line": [5, 9, 5]}), ("ring", cells(9)))


class TooMany(Orders):
    def refused(self, program, ask):
        given = given_of(program, {})
        for asked in (wanted, order_or_ring):
            with self.assertRaises(TooGreat):
                asked(program, given, ask)

    def test_two_hundred(self):
        chain = one_of(when(same(A, 0), gain(1), call(0, less(A, 1))))
        for n in (0, 1, 198, 199):
            self.ordered(chain, at(0, n), cells(*range(n + 1)))
        self.refused(chain, at(0, 200))
        self.refused(chain, at(0, 201))
        self.refused(chain, at(0, 300))

    def test_two_hundred_beside_one_another(self):
        # 16 turns times 16 turns, of which as many unlike cells are called as the number tells; and the ask.
        body = when(below(A, 256), gain(1), each(0, 15, each(0, 15, call(0, ("rest", plus(("times", B, num(16)), ("own", 2)),
                                                                             less(A, 256))))))
        self.ordered(one_of(body, 999), at(0, 256 + 199), cells(*range(199), 455))
        self.refused(one_of(body, 999), at(0, 256 + 200))
        self.refused(one_of(body, 999), at(0, 256 + 256))

    def test_ahead_of_a_ring(self):
        chain = lambda end: when(same(A, 0), end, call(0, less(A, 1)))
        self.assertEqual(self.checked(one_of(chain(call(0, 0))), at(0, 199)), ("ring", cells(0)))
        self.refused(one_of(chain(call(0, 0))), at(0, 200))
        self.refused(one_of(both(call(0, A), chain(gain(1)))), at(0, 200))
        self.refused(one_of(when(below(A, 300), call(0, plus(A, 1)), call(0, 0))), at(0, 7))
        kind, row = self.checked(one_of(when(below(A, 199), call(0, plus(A, 1)), call(0, 0))), at(0, 7))
        self.assertEqual((kind, sorted(row)), ("ring", cells(*range(200))))
        self.refused(one_of(when(below(A, 200), call(0, plus(A, 1)), call(0, 0))), at(0, 7))


class RingsAndOrders(Orders):
    def test_of_one_cell(self):
        for body in (call(0, A), both(gain(1), call(0, A)), choose(gain(1), call(0, A)), both(NONE, call(0, A))):
            self.ringed(one_of(body), at(0, 5), [cells(5)], cells(5))

    def test_behind_the_ask(self):
        body = when(same(A, 3), call(0, 3), call(0, less(A, 1)))
        self.ringed(one_of(body), at(0, 6), [cells(3)], cells(3, 4, 5, 6))

    def test_around(self):
        body = call(0, ("rest", plus(A, 1), num(5)))
        self.ringed(one_of(body), at(0, 2), [cells(0, 1, 2, 3, 4)], cells(0, 1, 2, 3, 4))
        self.ringed(one_of(body), at(0, 9), [cells(0, 1, 2, 3, 4)], cells(0, 1, 2, 3, 4, 9))

    def test_the_way_around(self):
        """Each wants the next one, not the other way."""
        self.ringed(one_of(call(0, ("rest", plus(A, 4), num(5)))), at(0, 2), [cells(4, 3, 2, 1, 0)], cells(0, 1, 2, 3, 4))

    def test_of_two_functions(self):
        program = program_of((), (("fa", (num(9),), call(1, 0, A)), ("fb", (num(9), num(9)), call(0, B))))
        self.ringed(program, at(0, 4), [[at(0, 4), at(1, 0, 4)]], [at(0, 4), at(1, 0, 4)])
        self.ringed(program, at(1, 7, 4), [[at(0, 4), at(1, 0, 4)]], [at(0, 4), at(1, 0, 4), at(1, 7, 4)])

    def test_one_of_several(self):
        body = when(below(A, 2), call(0, less(1, A)), when(below(A, 4), call(0, less(5, A)), choose(call(0, 0), call(0, 2))))
        self.ringed(one_of(body), at(0, 9), [cells(0, 1), cells(2, 3)], cells(0, 1, 2, 3, 9))

    def test_with_cells_beside_that_have_places(self):
        body = when(below(A, 5), when(same(A, 0), gain(1), call(0, less(A, 1))), both(call(0, 4), when(
            same(A, 7), call(0, 9), when(same(A, 9), call(0, 7), call(0, 7)))))
        self.ringed(one_of(body), at(0, 8), [cells(7, 9)], cells(0, 1, 2, 3, 4, 7, 8, 9))

    def test_in_a_reading_that_a_fault_ends(self):
        for bad, fault in ENDING:
            self.ringed(one_of(both(call(0, A), bad)), at(0, 5), [cells(5)], cells(5))
            self.ordered(one_of(both(bad, call(0, A))), at(0, 5), cells(5))

    def test_where_cells_meet_again(self):
        self.ordered(one_of(when(same(A, 0), gain(1), both(call(0, less(A, 1)), both(call(0, 0), call(0, less(A, 1)))))),
                     at(0, 4), cells(0, 1, 2, 3, 4))

    def test_wants_of_a_function_behind(self):
        program = program_of((), (("fa", (num(9),), call(1, A)), ("fb", (num(9),), gain(1))))
        self.assertEqual(self.checked(program, at(0, 3)), ("order", [at(1, 3), at(0, 3)]))

    def test_wants_above(self):
        body = when(below(A, 9), call(0, plus(A, 1)), gain(1))
        self.assertEqual(self.checked(one_of(body), at(0, 5)), ("order", cells(9, 8, 7, 6, 5)))


class Told(Orders):
    def test_is_the_askers_own(self):
        for body in (FIB, call(0, ("rest", plus(A, 1), num(5)))):
            program = one_of(body)
            given = given_of(program, {})
            for asked in (wanted, lambda *args: order_or_ring(*args)[1]):
                told = asked(program, given, at(0, 6))
                kept = list(told)
                told[0] = None
                told.append(at(0, 8))
                self.assertEqual(asked(program, given, at(0, 6)), kept)
                self.assertEqual(asked(program, given, at(0, 6)), kept)

    def test_the_same_asked_again(self):
        for body in (FIB, both(call(0, 1), choose(call(0, 2), call(0, A)))):
            program = one_of(body)
            given = given_of(program, {})
            first = order_or_ring(program, given, at(0, 6))
            order_or_ring(program, given, at(0, 3))
            self.assertEqual(order_or_ring(program, given, at(0, 6)), first)


if __name__ == "__main__":
    unittest.main()
