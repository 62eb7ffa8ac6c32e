"""Point 16: the tables' worths."""

import copy
import unittest

from roomtables.errors import NoCell, Ring, TooGreat
from roomtables.givens import given_of
from roomtables.orders import wanted
from roomtables.plain import plain
from roomtables.programs import program_of
from roomtables.readings import wants
from roomtables.tables import answer, table
from roomtables.words import WORDS
from writing import A, B, ENDING, NONE, YES, at, below, both, call, choose, each, every, gain, less, num, plus, same, when

FIB = when(below(A, 2), gain(2), choose(call(0, less(A, 1)), call(0, less(A, 2))))


def one_of(body, most=300):
    return program_of((), (("fa", (num(most),), body),))


class Tables(unittest.TestCase):
    def by_words(self, program, ask, *due, **things):
        """The answers by the six words, and the tables' rows of the ask."""
        given = given_of(program, things)
        kept = copy.deepcopy(given)
        for word, one in zip(WORDS, due):
            told = answer(program, given, ask, word)
            self.assertEqual(told, one, word)
            self.assertIs(type(told), type(one))
            self.assertIn((ask, one), table(program, given, ask, word))
        self.assertEqual(given, kept)


class Answers(Tables):
    def test_by_each_word(self):
        self.by_words(one_of(FIB), at(0, 10), 2, 2, 89, 178, (2, 89), (2, 89))
        self.by_words(one_of(gain(-3)), at(0, 0), -3, -3, 1, -3, (-3, 1), (-3, 1))
        self.by_words(one_of(NONE), at(0, 0), None, None, 0, 0, None, None)
        self.by_words(one_of(every(1, A, both(gain(2), call(0, less(A, B))))), at(0, 3), 14, 14, 1, 128, (14, 1), (14, 1))
        body = when(same(A, 0), gain(1), each(1, A, both(gain(2), call(0, less(A, B)))))
        self.by_words(one_of(body), at(0, 3), 3, 7, 4, 18, (3, 1), (7, 1))

    def test_longer_than_the_plain_runner_goes(self):
        self.by_words(one_of(FIB), at(0, 150), 2, 2, FIBS[150], 2 * FIBS[150], (2, FIBS[150]), (2, FIBS[150]))
        chain = when(same(A, 0), gain(5), both(gain(2), call(0, less(A, 1))))
        self.by_words(one_of(chain), at(0, 199), 403, 403, 1, 5 * 2 ** 199, (403, 1), (403, 1))

    def test_two_rows_of_a_grid(self):
        body = when(("or", below(A, 1), below(B, 1)), gain(plus(A, B)), choose(call(0, less(A, 1), B), call(0, A, less(B, 1))))
        program = program_of((), (("grid", (num(9), num(9)), body),))
        self.by_words(program, at(0, 3, 3), 1, 3, 20, 30, (1, 12), (3, 2))

    def test_a_text_and_another(self):
        """The least changes from one text to another."""
        told = when(same(A, 0), gain(B), when(same(B, 0), gain(A), choose(
            both(gain(1), call(0, less(A, 1), B)), both(gain(1), call(0, A, less(B, 1))),
            both(when(same(("at", "one", less(A, 1)), ("at", "other", less(B, 1))), gain(0), gain(1)), call(0, less(A, 1), less(B, 1))),
        )))
        program = program_of((("one", "text"), ("other", "text")), (("changes", (("size", "one"), ("size", "other")), told),))
        given = given_of(program, {"one": "kitten", "other": "sitting"})
        self.assertEqual(answer(program, given, at(0, 6, 7), "least"), 3)
        self.assertEqual(answer(program, given, at(0, 0, 7), "least"), 7)

    def test_sets_as_bits(self):
        """The ways to stand in a row, as sets lose one after the other."""
        body = when(same(A, 0), gain(1), each(0, 3, when(("has", A, B), call(0, ("without", A, B)), NONE)))
        program = program_of((), (("stand", (num(15),), body),))
        self.by_words(program, at(0, 15), 1, 1, 24, 24, (1, 24), (1, 24))

    def test_knots_of_a_tree(self):
        """The greatest sum of knots no two of which are a parent and its child."""
        takes = both(gain(("at", "worths", A)), every(0, less(("kids", "knots", A), 1), call(1, ("kid", "knots", A, B))))
        leaves = every(0, less(("kids", "knots", A), 1), call(0, ("kid", "knots", A, B)))
        most = (less(("size", "knots"), 1),)
        program = program_of((("knots", "tree"), ("worths", "row")), (
            ("best", most, choose(takes, call(1, A))), ("spared", most, leaves),
        ))
        given = given_of(program, {"knots": (0, 0, 1, 1), "worths": [10, 1, 20, 5, 5]})
        self.assertEqual(answer(program, given, at(0, 0), "greatest"), 30)
        self.assertEqual(answer(program, given, at(1, 0), "greatest"), 30)
        given["worths"] = [40, 1, 20, 5, 5]
        self.assertEqual(answer(program, given, at(0, 0), "greatest"), 50)


FIBS = [1, 1]
while len(FIBS) < 200:
    FIBS.append(FIBS[-1] + FIBS[-2])


class Rows(Tables):
    def test_sorted_with_all_wanted(self):
        program = one_of(FIB)
        given = given_of(program, {})
        for word in WORDS:
            told = table(program, given, at(0, 6), word)
            self.assertIs(type(told), list)
            self.assertEqual([cell for cell, one in told], [at(0, n) for n in range(7)])
            self.assertEqual([cell for cell, one in told], wanted(program, given, at(0, 6)))
        self.assertEqual(table(program, given, at(0, 3), "ways"), [(at(0, 0), 1), (at(0, 1), 1), (at(0, 2), 2), (at(0, 3), 3)])
        self.assertEqual(table(program, given, at(0, 3), "sum"), [(at(0, 0), 2), (at(0, 1), 2), (at(0, 2), 4), (at(0, 3), 6)])
        self.assertEqual(table(program, given, at(0, 2), "leasts"), [(at(0, 0), (2, 1)), (at(0, 1), (2, 1)), (at(0, 2), (2, 2))])

    def test_sorted_though_reckoned_otherwise(self):
        program = program_of((), (("fa", (num(9),), when(below(A, 9), call(1, plus(A, 1), A), gain(3))),
                                  ("fb", (num(9), num(9)), both(gain(B), call(0, A)))))
        given = given_of(program, {})
        self.assertEqual(table(program, given, at(0, 7), "least"), [
            (at(0, 7), 18), (at(0, 8), 11), (at(0, 9), 3), (at(1, 8, 7), 18), (at(1, 9, 8), 11),
        ])
        self.assertEqual(table(program, given, at(0, 9), "least"), [(at(0, 9), 3)])

    def test_the_askers_own(self):
        program = one_of(FIB)
        given = given_of(program, {})
        told = table(program, given, at(0, 6), "leasts")
        kept = list(told)
        told[0] = None
        told.append(None)
        self.assertEqual(table(program, given, at(0, 6), "leasts"), kept)

    def test_a_changed_given(self):
        program = program_of((("line", "row"),), (("fa", (num(9),), gain(("at", "line", A))),))
        given = given_of(program, {"line": [4, 5]})
        told = table(program, given, at(0, 1), "least")
        given["line"][1] = 9
        self.assertEqual(told, [(at(0, 1), 5)])
        self.assertEqual(table(program, given, at(0, 1), "least"), [(at(0, 1), 9)])
        self.assertEqual(answer(program, given, at(0, 2), "least"), "place")


class Faults(Tables):
    def test_told_as_worths(self):
        for bad, fault in ENDING:
            program = one_of(when(same(A, 2), bad, when(below(A, 2), gain(A), choose(call(0, less(A, 2)), call(0, less(A, 1))))))
            self.by_words(program, at(0, 2), *[fault] * 6)
            self.by_words(program, at(0, 3), *[fault] * 6)
            self.by_words(program, at(0, 5), *[fault] * 6)
            given = given_of(program, {})
            self.assertEqual(table(program, given, at(0, 4), "least"), [
                (at(0, 1), 1), (at(0, 2), fault), (at(0, 3), fault), (at(0, 4), fault),
            ])

    def test_the_first_one_met(self):
        for bad, fault in ENDING:
            for other, behind in ENDING:
                body = when(same(A, 0), bad, when(same(A, 1), other, choose(call(0, less(A, 2)), call(0, less(3, A)))))
                self.by_words(one_of(body), at(0, 2), *[fault] * 6)
                self.by_words(one_of(body), at(0, 3), *[behind] * 6)
                self.by_words(one_of(when(same(A, 1), bad, both(call(0, 1), other))), at(0, 5), *[fault] * 6)

    def test_great(self):
        square = one_of(when(same(A, 0), gain(10), both(call(0, less(A, 1)), call(0, less(A, 1)))))
        given = given_of(square, {})
        for n, due in ((8, 10 ** 256), (9, "great"), (10, "great"), (100, "great")):
            self.assertEqual(answer(square, given, at(0, n), "sum"), due)
        self.assertEqual(answer(square, given, at(0, 100), "least"), 10 * 2 ** 100)

    def test_as_the_plain_runner_tells_them(self):
        for bad, fault in ENDING:
            body = both(when(same(A, 1), bad, gain(A)), when(below(A, 1), gain(1), choose(call(0, less(A, 1)), call(0, 0))))
            program = one_of(body)
            given = given_of(program, {})
            for n in range(6):
                for word in WORDS:
                    self.assertEqual(answer(program, given, at(0, n), word), plain(program, given, at(0, n), word))

    def test_cells_that_only_a_fault_keeps_from_being_asked(self):
        """The plain runner stops at a fault; the table goes on to all that is wanted."""
        body = when(same(A, 9), both(call(0, 0), call(0, 1)), when(same(A, 0), gain(("full", num(13))), gain(4)))
        given = given_of(one_of(body), {})
        self.assertEqual(table(one_of(body), given, at(0, 9), "least"), [(at(0, 0), "place"), (at(0, 1), 4), (at(0, 9), "place")])


class Refusals(Tables):
    def ring(self, program, ask, given):
        for asked in (answer, table):
            for word in WORDS:
                with self.assertRaises(Ring) as caught:
                    asked(program, given, ask, word)
                row = caught.exception.cells
                self.assertIs(type(row), list)
                self.assertEqual(len(set(row)), len(row))
                for cell, after in zip(row, row[1:] + row[:1]):
                    self.assertIn(cell, wanted(program, given, ask))
                    self.assertIn(after, wants(program, given, cell))
        return row

    def test_ring(self):
        for body, ask, cells in (
            (call(0, A), 5, [5]), (choose(gain(1), call(0, A)), 5, [5]), (call(0, ("rest", plus(A, 1), num(5))), 2, [0, 1, 2, 3, 4]),
            (when(same(A, 3), call(0, 3), call(0, less(A, 1))), 6, [3]), (both(NONE, call(0, A)), 5, [5]),
        ):
            program = one_of(body)
            row = self.ring(program, at(0, ask), given_of(program, {}))
            self.assertEqual(sorted(row), [at(0, n) for n in cells])

    def test_ring_goes_ahead_of_faults(self):
        for bad, fault in ENDING:
            program = one_of(both(call(0, A), bad))
            self.ring(program, at(0, 5), given_of(program, {}))
            program = one_of(both(bad, call(0, A)))
            self.by_words(program, at(0, 5), *[fault] * 6)

    def test_the_field_is_the_askers_own(self):
        program = one_of(call(0, ("rest", plus(A, 1), num(5))))
        given = given_of(program, {})
        for _ in range(2):
            with self.assertRaises(Ring) as caught:
                answer(program, given, at(0, 2), "least")
            self.assertEqual(len(caught.exception.cells), 5)
            caught.exception.cells.clear()

    def test_too_great_goes_ahead(self):
        chain = lambda end: one_of(when(same(A, 0), end, call(0, less(A, 1))))
        for end in (gain(1), call(0, 0), call(0, A)):
            program = chain(end)
            given = given_of(program, {})
            for asked in (answer, table):
                for n in (200, 201, 300):
                    with self.assertRaises(TooGreat):
                        asked(program, given, at(0, n), "least")
        self.assertEqual(answer(chain(gain(1)), {}, at(0, 199), "least"), 1)
        self.assertEqual(len(table(chain(gain(1)), {}, at(0, 199), "least")), 200)
        self.ring(chain(call(0, 0)), at(0, 199), {})

    def test_no_cell_goes_first(self):
        program = one_of(when(YES, call(0, A), NONE))
        for asked in (answer, table):
            with self.assertRaises(NoCell):
                asked(program, {}, at(0, 301), "least")


if __name__ == "__main__":
    unittest.main()
