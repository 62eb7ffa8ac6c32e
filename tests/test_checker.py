"""Point 20: papers looked at."""

import copy
import unittest

from odd_things import ODD, nested
from roomtables.checker import lets_by, rooms, told_by
from roomtables.errors import NoCell
from roomtables.givens import given_of
from roomtables.papers import paper_of
from roomtables.programs import program_of
from roomtables.rules import right_rules
from roomtables.tables import answer
from roomtables.words import WORDS
from writing import A, B, ENDING, NONE, NOUGHT, at, below, both, call, choose, each, gain, less, num, plus, same, when

FIB = when(below(A, 2), gain(2), choose(call(0, less(A, 1)), call(0, less(A, 2))))
PLANS = ("all", "tight", "layers")


def one_of(body, most=300, places=1):
    return program_of((), (("fa", (num(most),) * places, body),))


def rows(*told):
    """A paper of the first function, of one place: the number, the room and the worth of each row."""
    return [(at(0, n), room, worth) for n, room, worth in told]


class Alike:
    """A thing that says that it is the same as any other."""

    def __eq__(self, other):
        return True

    def __hash__(self):
        return 0


class Checker(unittest.TestCase):
    def told(self, program, ask, word, paper, given=None):
        given = given or {}
        kept = copy.deepcopy((given, paper))
        told = lets_by(program, given, ask, word, paper)
        self.assertEqual((given, paper), kept)
        self.assertIs(lets_by(program, given, ask, word, paper), told)
        return told

    def yes(self, program, ask, word, paper):
        self.assertIs(self.told(program, ask, word, paper), True, paper)
        self.assertEqual(told_by(paper, ask), answer(program, {}, ask, word))

    def no(self, program, ask, word, *papers):
        for paper in papers:
            self.assertIs(self.told(program, ask, word, paper), False, paper)


class RightPapers(Checker):
    def test_of_all_plans(self):
        pairs = when(below(A, B), choose(gain(B), both(call(0, plus(A, 1), B), call(0, A, less(B, 1)))), gain(A))
        for program, ask in ((one_of(FIB), at(0, 9)), (one_of(pairs, 9, 2), at(0, 1, 4)), (one_of(NONE), at(0, 3)),
                             (one_of(when(same(A, 0), gain(NOUGHT), call(0, less(A, 1)))), at(0, 5))):
            right = right_rules(program, {}, ask)
            for word in WORDS:
                for plan in PLANS:
                    for rule in (right[0], right[-1], right[len(right) // 2]):
                        self.yes(program, ask, word, paper_of(program, {}, ask, word, rule, plan))

    def test_by_hand(self):
        program = one_of(FIB)
        self.yes(program, at(0, 3), "ways", rows((0, 0, 1), (1, 1, 1), (2, 0, 2), (3, 0, 3)))
        self.yes(program, at(0, 3), "ways", rows((0, 0, 1), (1, 1, 1), (2, 2, 2), (3, 3, 3)))
        self.yes(program, at(0, 3), "ways", rows((1, 999, 1), (0, 7, 1), (2, 7, 2), (3, 999, 3)))
        self.yes(program, at(0, 3), "sum", rows((0, 0, 2), (1, 1, 2), (2, 0, 4), (3, 1, 6)))
        self.yes(program, at(0, 2), "leasts", rows((0, 0, (2, 1)), (1, 1, (2, 1)), (2, 2, (2, 2))))
        self.yes(program, at(0, 1), "least", rows((1, 0, 2)))

    def test_a_row_may_write_over_a_room_that_it_wants(self):
        program = one_of(when(same(A, 0), gain(1), both(gain(1), call(0, less(A, 1)))))
        self.yes(program, at(0, 3), "least", rows((0, 5, 1), (1, 5, 2), (2, 5, 3), (3, 5, 4)))
        self.no(program, at(0, 3), "least", rows((0, 5, 1), (1, 5, 2), (0, 5, 1), (2, 5, 3), (3, 5, 4)))

    def test_cells_more_than_once(self):
        program = one_of(FIB)
        self.yes(program, at(0, 2), "ways", rows((0, 0, 1), (0, 0, 1), (1, 1, 1), (0, 2, 1), (1, 0, 1), (2, 1, 2), (2, 0, 2)))
        self.yes(program, at(0, 2), "ways", rows((0, 0, 1), (1, 1, 1), (2, 2, 2), (2, 3, 2), (0, 2, 1)))
        self.yes(program, at(0, 2), "ways", rows((0, 0, 1), (0, 1, 1), (1, 0, 1), (2, 0, 2)))
        self.yes(program, at(0, 2), "ways", rows((0, 0, 1), (1, 1, 1), (2, 0, 2), (0, 0, 1), (2, 1, 2)))
        self.no(program, at(0, 2), "ways", rows((0, 0, 1), (1, 1, 1), (2, 0, 2), (2, 1, 2)))

    def test_cells_that_the_ask_does_not_hang_on(self):
        program = one_of(FIB)
        self.yes(program, at(0, 1), "ways", rows((0, 0, 1), (1, 1, 1), (2, 0, 2), (3, 3, 3)))
        self.yes(program, at(0, 1), "ways", rows((1, 1, 1), (0, 0, 1)))
        self.no(program, at(0, 1), "ways", rows((1, 1, 1), (0, 0, 2)), rows((1, 1, 1), (2, 0, 2)), rows((1, 1, 1), (0, 1, 1)))
        other = program_of((), (("fa", (num(9),), gain(3)), ("fb", (num(9),), gain(4))))
        self.yes(other, at(0, 1), "least", [(at(1, 5), 0, 4), (at(0, 1), 1, 3)])
        self.no(other, at(0, 1), "least", [(at(1, 5), 0, 3), (at(0, 1), 1, 3)])

    def test_the_ask_must_stand_at_the_end(self):
        program = one_of(FIB)
        self.no(program, at(0, 1), "ways", [], rows((0, 0, 1)), rows((1, 0, 1), (0, 0, 1)), rows((1, 0, 1), (1, 1, 1), (0, 0, 1), (0, 1, 1)))
        self.yes(program, at(0, 1), "ways", rows((1, 0, 1), (1, 1, 1), (0, 0, 1)))
        self.yes(program, at(0, 1), "ways", rows((1, 0, 1), (0, 0, 1), (1, 0, 1)))

    def test_more_than_the_stages_reckon(self):
        """Rings and sizes aren't asked."""
        chain = one_of(when(same(A, 0), gain(1), call(0, less(A, 1))), 900)
        long = [(at(0, n), n, 1) for n in range(901)]
        self.assertIs(self.told(chain, at(0, 900), "least", long), True)
        self.assertEqual(told_by(long, at(0, 900)), 1)
        self.no(chain, at(0, 900), "least", long[1:], long[:-1], [])
        ring = one_of(call(0, A))
        self.no(ring, at(0, 5), "least", [], rows((5, 0, None)), rows((5, 0, 1)), rows((5, 0, "beyond"), (5, 0, "beyond")))
        ring = one_of(when(same(A, 0), gain(1), call(0, A)))
        self.assertIs(self.told(ring, at(0, 0), "least", rows((0, 0, 1))), True)
        self.no(ring, at(0, 0), "least", rows((0, 0, 1), (1, 0, 1)))
        self.no(ring, at(0, 1), "least", rows((0, 0, 1), (1, 0, 1)))

    def test_faults(self):
        for bad, fault in ENDING:
            program = one_of(when(same(A, 0), bad, choose(call(0, less(A, 1)), gain(1))))
            for word in WORDS:
                self.yes(program, at(0, 2), word, rows((0, 0, fault), (1, 0, fault), (2, 1, fault)))
                self.no(program, at(0, 2), word, rows((0, 0, fault), (1, 0, 1), (2, 1, 1)), rows((0, 0, None), (1, 0, 1), (2, 1, 1)),
                        rows((0, 0, fault), (1, 0, fault), (2, 1, fault + "x")), rows((0, 0, fault), (1, 0, fault), (2, 1, "")),
                        rows((0, 0, fault), (1, 0, fault), (2, 1, (fault,))))

    def test_each_want_stands_though_a_fault_is_met_ahead_of_it(self):
        program = one_of(when(same(A, 0), gain(NOUGHT), when(same(A, 1), gain(1), both(call(0, 0), call(0, 1)))))
        self.yes(program, at(0, 2), "least", rows((0, 0, "nought"), (1, 1, 1), (2, 0, "nought")))
        self.no(program, at(0, 2), "least", rows((0, 0, "nought"), (2, 0, "nought")))

    def test_wants_ahead_of_the_end_of_a_reading_alone(self):
        for bad, fault in ENDING:
            program = one_of(when(same(A, 2), both(call(0, 1), both(bad, call(0, 0))), gain(1)))
            self.yes(program, at(0, 2), "least", rows((1, 0, 1), (2, 1, fault)))
            self.no(program, at(0, 2), "least", rows((2, 1, fault)), rows((0, 0, 1), (2, 1, fault)))


class Bent(Checker):
    """A right paper of five rows, each bent in turn."""

    def setUp(self):
        self.program = one_of(FIB)
        self.right = {
            "least": rows((0, 0, 2), (1, 1, 2), (2, 0, 2), (3, 1, 2), (4, 0, 2)),
            "ways": rows((0, 0, 1), (1, 1, 1), (2, 0, 2), (3, 1, 3), (4, 0, 5)),
            "leasts": rows((0, 0, (2, 1)), (1, 1, (2, 1)), (2, 0, (2, 2)), (3, 1, (2, 3)), (4, 0, (2, 5))),
        }

    def bent(self, word, place, row):
        """The paper with another row at a place."""
        paper = list(self.right[word])
        paper[place] = row
        return paper

    def test_right_at_first(self):
        for word, paper in self.right.items():
            self.yes(self.program, at(0, 4), word, paper)

    def test_another_worth(self):
        others = [0, -1, 3, 7, None, "", "place", "1", "2", True, False, (), (2,), (2, 1, 1), [2, 1], {}, ..., 10 ** 400, (1, 2), (2, 0), b"1"]
        for word, paper in self.right.items():
            for place, (cell, room, told) in enumerate(paper):
                for other in others:
                    if other != told or isinstance(other, bool):
                        self.no(self.program, at(0, 4), word, self.bent(word, place, (cell, room, other)))

    def test_truths_for_numbers(self):
        self.no(self.program, at(0, 1), "ways", rows((1, 0, True)))
        self.yes(self.program, at(0, 1), "ways", rows((1, 0, 1)))
        for program, word, right, truths in (
            (one_of(NONE), "ways", 0, (False,)), (one_of(NONE), "sum", 0, (False,)), (one_of(gain(1)), "sum", 1, (True,)),
            (one_of(gain(0)), "least", 0, (False,)), (one_of(gain(1)), "greatests", (1, 1), ((True, 1), (1, True), (True, True))),
            (one_of(gain(0)), "leasts", (0, 1), ((False, 1), (0, True), (False, True))), (one_of(NONE), "least", None, (False, 0)),
        ):
            self.yes(program, at(0, 3), word, rows((3, 0, right)))
            for truth in truths:
                self.no(program, at(0, 3), word, rows((3, 0, truth)))
                self.no(program, at(0, 3), word, rows((4, 1, truth), (3, 0, right)))

    def test_pairs_as_lists(self):
        self.no(one_of(gain(1)), at(0, 3), "leasts", rows((3, 0, [1, 1])), rows((3, 0, 1)), rows((3, 0, (1,))), rows((3, 0, (1, 1, 1))),
                rows((3, 0, (1, "1"))), rows((3, 0, (1, None))), rows((3, 0, ((1, 1), 1))))

    def test_another_room(self):
        for word, paper in self.right.items():
            for place, (cell, room, told) in enumerate(paper):
                for other in (2, 3, 998, 999):
                    self.yes(self.program, at(0, 4), word, self.bent(word, place, (cell, other, told)))
                for other in (-1, 1000, 1001, -10 ** 29, 10 ** 29, None, "0", True, False, (0,), [0], {}, "", b"0", (), ...):
                    self.no(self.program, at(0, 4), word, self.bent(word, place, (cell, other, told)))

    def test_a_want_written_over(self):
        for word, paper in self.right.items():
            # 0 and 1 are wanted by row 2, 1 and 2 by row 3, 2 and 3 by row 4.
            for place, (cell, room, told) in list(enumerate(paper))[1:4]:
                if place != 2:
                    self.no(self.program, at(0, 4), word, self.bent(word, place, (cell, 0, told)))
            self.no(self.program, at(0, 4), word, self.bent(word, 2, (at(0, 2), 1, paper[2][2])))

    def test_a_row_left_out(self):
        for word, paper in self.right.items():
            for place in range(5):
                self.no(self.program, at(0, 4), word, paper[:place] + paper[place + 1:])

    def test_a_row_too_many(self):
        for word, paper in self.right.items():
            for place in range(6):
                for cell, told in ((at(0, 0), paper[0][2]), (at(0, 1), paper[1][2])):
                    more = paper[:place] + [(cell, 5, told)] + paper[place:]
                    self.yes(self.program, at(0, 4), word, more)
                wrong = paper[:place] + [(at(0, 0), 5, 9)] + paper[place:]
                self.no(self.program, at(0, 4), word, wrong)
                self.no(self.program, at(0, 4), word, paper[:place] + [(at(0, 301), 5, 2)] + paper[place:])

    def test_the_order_changed(self):
        for word, paper in self.right.items():
            free = [(cell, place, told) for place, (cell, room, told) in enumerate(paper)]
            self.yes(self.program, at(0, 4), word, free)
            self.yes(self.program, at(0, 4), word, [free[1], free[0]] + free[2:])
            for place in range(1, 4):
                changed = list(free)
                changed[place], changed[place + 1] = changed[place + 1], changed[place]
                self.no(self.program, at(0, 4), word, changed)
            self.no(self.program, at(0, 4), word, list(reversed(free)))

    def test_another_cell(self):
        for word, paper in self.right.items():
            for place, (cell, room, told) in enumerate(paper):
                for other in (at(0, 7), at(0, 301), at(0, -1), at(1, 0), (0, [cell[1][0]]), [0, cell[1]], (False, cell[1]),
                              at(0, "0"), at(0, True), at(0), None, 0, "fa(0)", (0, (cell[1][0], 0)), (cell,), {}, [], ()):
                    self.no(self.program, at(0, 4), word, self.bent(word, place, (other, room, told)))

    def test_a_list_for_a_row_and_other_rows(self):
        for word, paper in self.right.items():
            for place, row in enumerate(paper):
                for other in (list(row), row[:2], row + (0,), (), None, 0, "row", {}, (row,), (row[0], row[2]), row[::-1], {row[1]: row}):
                    self.no(self.program, at(0, 4), word, self.bent(word, place, other))
                for odd in ODD:
                    self.assertIs(lets_by(self.program, {}, at(0, 4), word, self.bent(word, place, odd)), False, odd)

    def test_other_words(self):
        for word, paper in self.right.items():
            for other in WORDS:
                if other != word and {word, other} != {"least", "greatest"}:
                    self.assertIs(self.told(self.program, at(0, 4), other, paper), {word, other} == {"leasts", "greatests"})

    def test_another_ask(self):
        for word, paper in self.right.items():
            self.assertEqual([self.told(self.program, at(0, n), word, paper) for n in range(6)], [False, False, False, True, True, False])


class Whatever(Checker):
    def test_things_that_are_no_papers(self):
        program = one_of(gain(1))
        right = (at(0, 3), 0, 1)
        for thing in ODD + [(right,), {0: right}, right, [[right]], [list(right)], (right, right), "paper", [right, None], [None, right],
                            nested(50, [right]), [nested(50, right)], [right] * 3 + [()], iter([right]), {right}, [(at(0, 3), 0)] * 60]:
            self.assertIs(lets_by(program, {}, at(0, 3), "least", thing), False, thing)
        for thing in ODD:
            for row in ((thing, 0, 1), (at(0, 3), thing, 1), (at(0, 3), 0, thing)):
                due = row[1:] in ((0, 1), (1, 1)) and not isinstance(thing, bool)
                self.assertIs(lets_by(program, {}, at(0, 3), "least", [row]), due and row[0] == at(0, 3), row)
                self.assertIs(lets_by(program, {}, at(0, 3), "leasts", [row]), False, row)

    def test_things_that_say_they_are_the_same_as_all(self):
        for word in ("least", "leasts"):
            for body in (gain(1), gain(NOUGHT), NONE):
                right = paper_of(one_of(body), {}, at(0, 3), word, (), "all")[0]
                self.yes(one_of(body), at(0, 3), word, [right])
                for place in range(3):
                    row = right[:place] + (Alike(),) + right[place + 1:]
                    self.assertIs(lets_by(one_of(body), {}, at(0, 3), word, [row]), False)
                for cell in ((Alike(), (3,)), (0, Alike()), (0, (Alike(),))):
                    self.assertIs(lets_by(one_of(body), {}, at(0, 3), word, [(cell,) + right[1:]]), False)
        for pair in ((Alike(), 1), (1, Alike())):
            self.assertIs(lets_by(one_of(gain(1)), {}, at(0, 3), "leasts", [(at(0, 3), 0, pair)]), False)

    def test_a_thousand_rows(self):
        program = one_of(gain(1), 2000)
        paper = [(at(0, n), n, 1) for n in range(1000)]
        self.assertIs(lets_by(program, {}, at(0, 500), "least", paper), True)
        self.assertIs(lets_by(program, {}, at(0, 500), "least", [(at(0, n), 0, 1) for n in range(1000)]), False)
        self.assertIs(lets_by(program, {}, at(0, 999), "least", [(at(0, n), 0, 1) for n in range(1000)]), True)
        self.assertEqual(rooms(paper), 1000)
        self.assertIs(lets_by(program, {}, at(0, 500), "least", paper + [(at(0, 1000), 1000, 1)]), False)

    def test_the_one_refusal(self):
        program = one_of(FIB)
        for ask in (at(0, 301), at(1, 0), None, [0, (1,)], "x"):
            for paper in ([], rows((0, 0, 1)), None, 5):
                with self.assertRaises(NoCell):
                    lets_by(program, {}, ask, "ways", paper)

    def test_by_the_given(self):
        program = program_of((("line", "row"),), (("fa", (("size", "line"),), gain(("at", "line", A))),))
        given = given_of(program, {"line": [4, 5]})
        paper = [(at(0, 1), 0, 5), (at(0, 2), 1, "place")]
        self.assertIs(self.told(program, at(0, 1), "least", paper, given), True)
        given["line"][1] = 6
        self.assertIs(self.told(program, at(0, 1), "least", paper, given), False)
        given["line"] = [4, 5, 6]
        self.assertIs(self.told(program, at(0, 1), "least", paper, given), False)
        given["line"] = [5]
        with self.assertRaises(NoCell):
            lets_by(program, given, at(0, 2), "least", paper)


class Told(Checker):
    def test_the_worth_of_the_ask(self):
        paper = rows((0, 0, 1), (1, 1, 1), (2, 2, 2), (3, 3, 3))
        kept = copy.deepcopy(paper)
        self.assertEqual([told_by(paper, at(0, n)) for n in range(4)], [1, 1, 2, 3])
        self.assertEqual(paper, kept)
        self.assertEqual(told_by(rows((0, 0, (2, 1)), (1, 1, (2, 1)), (2, 0, (2, 2))), at(0, 2)), (2, 2))
        self.assertIsNone(told_by(rows((3, 0, None)), at(0, 3)))
        self.assertEqual(told_by(rows((3, 0, "place")), at(0, 3)), "place")
        self.assertEqual(told_by(rows((3, 0, 7), (2, 1, 8), (3, 2, 7), (4, 0, 9)), at(0, 3)), 7)

    def test_rooms(self):
        self.assertEqual(rooms([]), 0)
        self.assertEqual(rooms(rows((0, 0, 1))), 1)
        self.assertEqual(rooms(rows((0, 0, 1), (1, 1, 1), (2, 0, 2))), 2)
        self.assertEqual(rooms(rows((0, 999, 1), (1, 7, 1), (2, 999, 2), (3, 8, 1), (4, 7, 1))), 3)
        # Let by or not.
        self.assertEqual(rooms(rows((0, -1, 1), (0, 1000, "x"), (999, 5, None), (0, -1, 2))), 3)
        for many in (rows((0, 0, 1)), []):
            kept = copy.deepcopy(many)
            self.assertIs(type(rooms(many)), int)
            self.assertEqual(many, kept)

    def test_each_turn_wants_its_cells(self):
        program = one_of(when(same(A, 9), each(0, 2, call(0, B)), gain(A)))
        self.yes(program, at(0, 9), "least", rows((0, 0, 0), (1, 1, 1), (2, 2, 2), (9, 0, 0)))
        self.no(program, at(0, 9), "least", rows((0, 0, 0), (1, 1, 1), (9, 0, 0)))


if __name__ == "__main__":
    unittest.main()
