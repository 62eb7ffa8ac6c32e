"""Points 21 and 22: papers told by a rule and a plan, and the fewest rooms."""

import copy
import unittest

from roomtables.checker import lets_by, rooms, told_by
from roomtables.errors import NoCell, NoRule, Ring, TooGreat
from roomtables.givens import given_of
from roomtables.papers import fewest, paper_of
from roomtables.programs import program_of
from roomtables.readings import wants
from roomtables.rules import is_right, right_rules, rules
from roomtables.tables import answer
from roomtables.words import WORDS
from test_rules import BITS, DOWN, UP, UP1, WIDE
from writing import A, B, ENDING, NONE, NOUGHT, at, below, both, call, choose, each, gain, half, less, num, plus, same, when

FIB = when(below(A, 2), gain(1), choose(call(0, less(A, 1)), call(0, less(A, 2))))
CHAIN = when(same(A, 0), gain(4), both(gain(1), call(0, less(A, 1))))
# Those of a grid that is walked down and to the left.
GRID = when(("or", same(A, 0), same(B, 0)), gain(1), choose(call(0, less(A, 1), B), call(0, A, less(B, 1))))
PLANS = ("all", "tight", "layers")


def one_of(body, places=1, most=300):
    return program_of((), (("fa", (num(most),) * places, body),))


class Papers(unittest.TestCase):
    def told(self, program, ask, word, rule, plan, things=None):
        """A paper, looked at."""
        given = given_of(program, things or {})
        kept = copy.deepcopy(given)
        paper = paper_of(program, given, ask, word, rule, plan)
        self.assertEqual(given, kept)
        self.assertIs(type(paper), list)
        self.assertEqual({type(row) for row in paper}, {tuple})
        self.assertIs(lets_by(program, given, ask, word, paper), True)
        self.assertEqual(told_by(paper, ask), answer(program, given, ask, word))
        return paper

    def by_plan(self, program, ask, rule, plan, cells, due):
        """The cells, by their args where there is but one function, and the rooms."""
        paper = self.told(program, ask, "ways", rule, plan)
        self.assertEqual([cell[1] if len(program[1]) == 1 else cell for cell, room, worth in paper], cells)
        self.assertEqual([room for cell, room, worth in paper], due, plan)

    def plans(self, program, ask, rule, cells, tight, layers):
        self.by_plan(program, ask, rule, "all", cells, list(range(len(cells))))
        self.by_plan(program, ask, rule, "tight", cells, tight)
        self.by_plan(program, ask, rule, "layers", cells, layers)


class Rows(Papers):
    def test_by_rank(self):
        cells = [cell for cell, room, worth in self.told(one_of(FIB), at(0, 4), "least", (UP,), "all")]
        self.assertEqual(cells, [at(0, n) for n in range(5)])
        up = one_of(when(below(A, 9), call(0, plus(A, 1)), gain(1)))
        for rule in ((DOWN,), (WIDE,), (UP1, DOWN)):
            cells = [cell for cell, room, worth in self.told(up, at(0, 6), "least", rule, "all")]
            self.assertEqual(cells, [at(0, n) for n in (9, 8, 7, 6)])

    def test_alike_ones_by_their_args(self):
        program = one_of(when(same(A, 9), choose(call(0, 6, 1), call(0, 2, 8), call(0, 2, 1), call(0, 6, 8)), gain(1)), 2)
        for rule, due in (((UP,), [(2, 1), (2, 8), (6, 1), (6, 8), (9, 9)]), ((UP1,), [(2, 1), (6, 1), (2, 8), (6, 8), (9, 9)])):
            cells = [cell[1] for cell, room, worth in self.told(program, at(0, 9, 9), "ways", rule, "all")]
            self.assertEqual(cells, due)

    def test_alike_ones_by_their_args_whatever_they_want(self):
        program = one_of(when(same(A, 9), both(call(0, 5, 1), call(0, 5, 0)), when(same(B, 0), call(0, 2, 2), gain(1))), 2)
        cells = [cell[1] for cell, room, worth in self.told(program, at(0, 9, 9), "ways", (UP,), "all")]
        self.assertEqual(cells, [(2, 2), (5, 0), (5, 1), (9, 9)])

    def test_the_functions_number_goes_ahead_of_the_args(self):
        program = program_of((), (
            ("fa", (num(9),), gain(1)), ("fb", (num(9),), gain(1)),
            ("fc", (num(9),), both(call(1, 2), both(call(0, 7), both(call(1, 0), call(0, 3))))),
        ))
        for rule, due in (
            ((), [at(0, 3), at(0, 7), at(1, 0), at(1, 2), at(2, 8)]),
            ((UP1,), [at(0, 3), at(0, 7), at(1, 0), at(1, 2), at(2, 8)]),
            ((UP,), [at(1, 0), at(1, 2), at(0, 3), at(0, 7), at(2, 8)]),
            ((UP1, UP), [at(1, 0), at(1, 2), at(0, 3), at(0, 7), at(2, 8)]),
        ):
            cells = [cell for cell, room, worth in self.told(program, at(2, 8), "ways", rule, "all")]
            self.assertEqual(cells, due)

    def test_by_two_keys(self):
        self.assertEqual([row[0][1] for row in self.told(one_of(GRID, 2), at(0, 2, 2), "ways", (UP1, UP), "all")],
                         [(1, 0), (2, 0), (0, 1), (1, 1), (2, 1), (0, 2), (1, 2), (2, 2)])
        self.assertEqual([row[0][1] for row in self.told(one_of(GRID, 2), at(0, 2, 2), "ways", (UP, UP1), "all")],
                         [(0, 1), (0, 2), (1, 0), (1, 1), (1, 2), (2, 0), (2, 1), (2, 2)])

    def test_worths(self):
        paper = self.told(one_of(FIB), at(0, 4), "ways", (UP,), "all")
        self.assertEqual(paper, [(at(0, n), n, worth) for n, worth in enumerate([1, 1, 2, 3, 5])])
        paper = self.told(one_of(CHAIN), at(0, 2), "least", (UP,), "tight")
        self.assertEqual(paper, [(at(0, 0), 0, 4), (at(0, 1), 0, 5), (at(0, 2), 0, 6)])
        paper = self.told(one_of(CHAIN), at(0, 2), "leasts", (UP,), "layers")
        self.assertEqual(paper, [(at(0, 0), 0, (4, 1)), (at(0, 1), 1, (5, 1)), (at(0, 2), 0, (6, 1))])
        paper = self.told(one_of(NONE), at(0, 2), "least", (), "tight")
        self.assertEqual(paper, [(at(0, 2), 0, None)])

    def test_each_word(self):
        for word in WORDS:
            for plan in PLANS:
                for rule in right_rules(one_of(GRID, 2), {}, at(0, 2, 2)):
                    self.told(one_of(GRID, 2), at(0, 2, 2), word, rule, plan)

    def test_faults_as_worths(self):
        for bad, fault in ENDING:
            program = one_of(when(same(A, 0), bad, call(0, less(A, 1))))
            for plan in PLANS:
                paper = self.told(program, at(0, 3), "sum", (UP,), plan)
                self.assertEqual([row[2] for row in paper], [fault] * 4)

    def test_by_the_given(self):
        program = program_of((("line", "row"),), (("fa", (num(9),), when(same(A, 0), gain(("at", "line", num(0))), call(0, less(A, 1)))),))
        self.assertEqual(self.told(program, at(0, 1), "least", (UP,), "all", {"line": [6]}), [(at(0, 0), 0, 6), (at(0, 1), 1, 6)])

    def test_the_askers_own(self):
        program = one_of(FIB)
        for plan in PLANS:
            paper = paper_of(program, {}, at(0, 4), "ways", (UP,), plan)
            kept = list(paper)
            paper.clear()
            self.assertEqual(paper_of(program, {}, at(0, 4), "ways", (UP,), plan), kept)


class Plans(Papers):
    def test_one_row(self):
        self.plans(one_of(gain(1)), at(0, 3), (), [(3,)], [0], [0])

    def test_a_chain(self):
        self.plans(one_of(CHAIN), at(0, 4), (UP,), [(n,) for n in range(5)], [0, 0, 0, 0, 0], [0, 1, 0, 1, 0])

    def test_two_back(self):
        self.plans(one_of(FIB), at(0, 6), (UP,), [(n,) for n in range(7)], [0, 1, 0, 1, 0, 1, 0], [0, 1, 2, 0, 1, 2, 0])

    def test_a_grid(self):
        cells = [(0, 1), (0, 2), (1, 0), (1, 1), (1, 2), (2, 0), (2, 1), (2, 2)]
        # (0, 1) and (1, 0) are wanted by (1, 1); it and (0, 2) by (1, 2), it and (2, 0) by (2, 1); that and (1, 2) by (2, 2).
        tight = [0, 1, 2, 0, 1, 2, 0, 0]
        # The layers are 0, 1, 2; with 1 nothing becomes free, with 2 what 0 has had, and (1, 0).
        layers = [0, 1, 2, 3, 4, 0, 1, 2]
        self.plans(one_of(GRID, 2), at(0, 2, 2), (UP, UP1), cells, tight, layers)

    def test_one_layer(self):
        """By the rule () all cells of a function are of one layer."""
        program = program_of((), (("fa", (num(9),), gain(1)), ("fb", (num(9),), both(call(0, 1), both(call(0, 2), call(0, 1)))),
                                  ("fc", (num(9),), both(call(1, 5), call(1, 6)))))
        cells = [at(0, 1), at(0, 2), at(1, 5), at(1, 6), at(2, 0)]
        self.plans(program, at(2, 0), (), cells, [0, 1, 2, 0, 0], [0, 1, 2, 3, 0])

    def test_layers_by_the_first_key_alone(self):
        body = when(same(B, 0), gain(1), call(0, A, less(B, 1)))
        cells = [(5, 0), (5, 1), (5, 2), (5, 3)]
        self.plans(one_of(body, 2), at(0, 5, 3), (UP, UP1), cells, [0, 0, 0, 0], [0, 1, 2, 3])
        self.plans(one_of(body, 2), at(0, 5, 3), (UP1, UP), cells, [0, 0, 0, 0], [0, 1, 0, 1])

    def test_what_is_wanted_much_later(self):
        """0 is wanted by all."""
        body = when(same(A, 0), gain(1), both(call(0, 0), call(0, less(A, 1))))
        self.plans(one_of(body), at(0, 4), (UP,), [(n,) for n in range(5)], [0, 1, 1, 1, 0], [0, 1, 2, 1, 2])

    def test_the_least_free_room(self):
        """Rooms that become free in another order than they were taken."""
        body = when(same(A, 9), both(call(0, 8), both(call(0, 7), call(0, 6))), when(same(A, 8), call(0, 2), when(
            same(A, 7), both(call(0, 0), call(0, 1)), when(same(A, 6), call(0, 1), gain(1)))))
        cells = [(0,), (1,), (2,), (6,), (7,), (8,), (9,)]
        # 6 wants 1, 7 wants 0 and 1, 8 wants 2: 0 and 1 are free at 7, 2 at 8.
        self.plans(one_of(body), at(0, 9), (UP,), cells, [0, 1, 2, 3, 0, 1, 0], [0, 1, 2, 3, 4, 0, 1])

    def test_two_functions(self):
        program = program_of((), (("fa", (num(9),), gain(1)), ("fb", (num(9),), both(call(0, 1), call(0, 2)))))
        self.plans(program, at(1, 0), (), [at(0, 1), at(0, 2), at(1, 0)], [0, 1, 0], [0, 1, 2])


class TightIsTightest(Papers):
    def test_no_fewer_rooms_will_do(self):
        for program, ask, rule in ((one_of(FIB), at(0, 3), (UP,)), (one_of(CHAIN), at(0, 3), (UP,)),
                                   (one_of(when(same(A, 3), each(0, 2, call(0, B)), gain(1))), at(0, 3), (UP,))):
            tight = paper_of(program, {}, ask, "ways", rule, "tight")
            many = rooms(tight)
            self.assertTrue(self.some(program, ask, tight, many))
            self.assertFalse(self.some(program, ask, tight, many - 1))

    def some(self, program, ask, paper, many):
        """Whether the paper's cells in their order are let by in some way with so many rooms."""
        ways = [[]]
        for cell, room, worth in paper:
            ways = [way + [(cell, room, worth)] for way in ways for room in range(many)]
        return any(lets_by(program, {}, ask, "ways", way) for way in ways)


class Refusals(Papers):
    def test_no_rule(self):
        program = one_of(FIB)
        right = right_rules(program, {}, at(0, 6))
        for rule in rules():
            for plan in PLANS:
                if rule not in right:
                    with self.assertRaises(NoRule):
                        paper_of(program, {}, at(0, 6), "least", rule, plan)
        for plan in PLANS:
            for rule in right:
                self.told(program, at(0, 6), "least", rule, plan)

    def test_no_rule_at_all(self):
        program = program_of((), (("fa", (num(9),), call(1, A)), ("fb", (num(9),), gain(1))))
        self.assertEqual(right_rules(program, {}, at(0, 5)), [])
        with self.assertRaises(NoRule):
            fewest(program, {}, at(0, 5))
        with self.assertRaises(NoRule):
            paper_of(program, {}, at(0, 5), "least", (UP,), "tight")

    def test_ring_goes_ahead(self):
        for body, many in ((call(0, A), 1), (call(0, ("rest", plus(A, 1), num(5))), 5), (choose(gain(1), call(0, A)), 1)):
            program = one_of(body)
            asks = [lambda: fewest(program, {}, at(0, 3))]
            asks += [lambda plan=plan, rule=rule: paper_of(program, {}, at(0, 3), "least", rule, plan) for plan in PLANS for rule in ((), (UP,))]
            for asked in asks:
                with self.assertRaises(Ring) as caught:
                    asked()
                row = caught.exception.cells
                self.assertEqual(len(row), many)
                for cell, after in zip(row, row[1:] + row[:1]):
                    self.assertIn(after, wants(program, {}, cell))

    def test_too_great_goes_ahead_of_that(self):
        for end in (gain(1), call(0, 0)):
            program = one_of(when(same(A, 0), end, call(0, less(A, 1))))
            for rule in ((UP,), (DOWN,), ()):
                with self.assertRaises(TooGreat):
                    paper_of(program, {}, at(0, 200), "least", rule, "all")
            with self.assertRaises(TooGreat):
                fewest(program, {}, at(0, 200))
        program = one_of(CHAIN)
        self.assertEqual(len(self.told(program, at(0, 199), "least", (UP,), "tight")), 200)
        self.assertEqual(fewest(program, {}, at(0, 199)), ((UP,), 1))

    def test_no_cell_goes_first(self):
        program = one_of(call(0, A))
        with self.assertRaises(NoCell):
            paper_of(program, {}, at(0, 301), "least", (), "all")
        with self.assertRaises(NoCell):
            fewest(program, {}, at(0, 301))


class Fewest(Papers):
    def fewest_is(self, program, ask, rule, many):
        told = fewest(program, {}, ask)
        self.assertIs(type(told), tuple)
        self.assertEqual(told, (rule, many))
        counts = [(one, rooms(paper_of(program, {}, ask, "ways", one, "tight"))) for one in right_rules(program, {}, ask)]
        least = min(count for one, count in counts)
        self.assertEqual(told, [(one, count) for one, count in counts if count == least][0])
        return counts

    def test_by_hand(self):
        self.fewest_is(one_of(gain(1)), at(0, 3), (), 1)
        self.fewest_is(one_of(CHAIN), at(0, 5), (UP,), 1)
        self.fewest_is(one_of(FIB), at(0, 6), (UP,), 2)

    def test_the_first_one_of_alike_ones(self):
        counts = self.fewest_is(one_of(FIB), at(0, 6), (UP,), 2)
        self.assertGreater(len([1 for rule, count in counts if count == 2]), 1)

    def test_a_later_rule_with_fewer_rooms(self):
        # Long and narrow: along the short side the fewest cells stand at once.
        counts = self.fewest_is(one_of(GRID, 2), at(0, 6, 2), (UP, UP1), 3)
        self.assertEqual(counts[0], ((UP, UP1), 3))
        counts = self.fewest_is(one_of(GRID, 2), at(0, 2, 6), (UP1, UP), 3)
        self.assertGreater(counts[0][1], 3)
        self.assertEqual(counts[0][0], (UP, UP1))

    def test_faults(self):
        program = one_of(when(same(A, 0), gain(NOUGHT), call(0, less(A, 1))))
        self.fewest_is(program, at(0, 3), (UP,), 1)

    def test_halves(self):
        self.fewest_is(one_of(when(same(A, 0), gain(1), call(0, half(A)))), at(0, 9), (UP,), 1)


if __name__ == "__main__":
    unittest.main()
