"""Point 24: roads, whether a thing is one, and what they are worth."""

import copy
import itertools
import unittest

from odd_things import ODD, nested
from roomtables.errors import NoCell, NoRoad, Ring, TooGreat
from roomtables.programs import program_of
from roomtables.roads import is_road, road, road_worth
from roomtables.tables import answer
from roomtables.words import WORDS
from writing import (
    A, B, C, ENDING, NONE, at, below, both, call, choose, each, every, gain, less, num, plus, same, times, when,
)

OTHER_WORDS = ("ways", "sum", "leasts", "greatests")


def one_function(body, most=300):
    return program_of((), (("fa", (num(most),), body),))


def by_arg(*bodies):
    """A program with one function that has one of these bodies by each arg, from 0 on."""
    body = bodies[-1]
    for k in reversed(range(len(bodies) - 1)):
        body = when(same(A, k), bodies[k], body)
    return one_function(body)


def rows(*pairs):
    """Rows of cells of the first function."""
    return [(at(0, arg), picks) for arg, picks in pairs]


# From 5 on down by 1 or 2 steps, each with its own gain.
STEPS = one_function(when(below(A, 2), gain(plus(A, 3)), both(gain(times(A, A)), choose(call(0, less(A, 1)), call(0, less(A, 2))))))


class Told(unittest.TestCase):
    def least(self, program, ask, due):
        self.told(program, ask, "least", due)

    def told(self, program, ask, word, due):
        told = road(program, {}, at(0, ask), word)
        self.assertEqual(told, due)
        if due is not None:
            self.assertIs(type(told), list)
            for row in told:
                self.assertEqual([type(one) for one in row], [tuple, tuple])
            self.assertIs(is_road(program, {}, at(0, ask), told), True)
            self.assertEqual(road_worth(program, {}, told), answer(program, {}, at(0, ask), word))

    def test_by_least_and_by_greatest(self):
        # 3, 4, 4 + 3, 9 + 4, 16 + 7, 25 + 13 and 3, 4, 4 + 4, 9 + 8, 16 + 17, 25 + 33.
        self.told(STEPS, 5, "least", rows((5, (1,)), (3, (1,)), (1, ())))
        self.told(STEPS, 4, "least", rows((4, (1,)), (2, (1,)), (0, ())))
        self.told(STEPS, 5, "greatest", rows((5, (0,)), (4, (0,)), (3, (0,)), (2, (0,)), (1, ())))
        self.told(STEPS, 0, "least", rows((0, ())))
        self.told(STEPS, 1, "greatest", rows((1, ())))

    def test_the_first_of_alike_bodies(self):
        self.least(one_function(choose(gain(3), gain(2), gain(2), gain(1))), 0, rows((0, (3,))))
        self.told(one_function(choose(gain(1), gain(2), gain(2), gain(1))), 0, "greatest", rows((0, (1,))))
        self.least(one_function(choose(gain(1), gain(1), gain(1))), 0, rows((0, (0,))))
        self.told(one_function(choose(gain(1), gain(1), gain(1))), 0, "greatest", rows((0, (0,))))

    def test_the_least_of_alike_turns(self):
        body = each(-3, 3, gain(times(B, B)))
        self.told(one_function(body), 0, "greatest", rows((0, (-3,))))
        self.least(one_function(body), 0, rows((0, (0,))))
        self.least(one_function(each(-3, -1, gain(7))), 0, rows((0, (-3,))))
        self.least(one_function(each(A, plus(A, 15), gain(less(0, B)))), 6, rows((6, (21,))))

    def test_the_first_pick_goes_ahead_of_the_next(self):
        body = choose(choose(gain(2), gain(2), gain(1)), choose(gain(1), gain(1)))
        self.least(one_function(body), 0, rows((0, (0, 2))))
        self.told(one_function(body), 0, "greatest", rows((0, (0, 0))))
        body = choose(each(5, 9, gain(less(9, B))), gain(0))
        self.least(one_function(body), 0, rows((0, (0, 9))))
        body = choose(both(choose(gain(1), gain(0)), choose(gain(1), gain(0))), gain(0))
        self.least(one_function(body), 0, rows((0, (0, 1, 1))))

    def test_both_and_all(self):
        body = both(choose(gain(2), gain(1)), both(gain(4), each(1, 3, gain(times(B, less(2, B))))))
        self.least(one_function(body), 0, rows((0, (1, 3))))
        self.told(one_function(body), 0, "greatest", rows((0, (0, 1))))
        body = every(1, 3, choose(gain(2), gain(B), gain(3)))
        self.least(one_function(body), 0, rows((0, (1, 0, 0))))
        self.told(one_function(body), 0, "greatest", rows((0, (2, 2, 1))))
        self.least(one_function(every(2, 1, choose(NONE))), 0, rows((0, ())))

    def test_within_an_if(self):
        program = by_arg(choose(gain(1), gain(0)), each(1, 2, gain(B)), choose(gain(0), NONE))
        self.least(program, 0, rows((0, (1,))))
        self.least(program, 1, rows((1, (1,))))
        self.told(program, 1, "greatest", rows((1, (2,))))

    def test_what_has_no_way_is_not_taken(self):
        program = by_arg(NONE, choose(call(0, 0), gain(9)), choose(both(gain(-99), call(0, 0)), call(0, 1)), each(0, 1, call(0, B)))
        for word in ("least", "greatest"):
            self.told(program, 1, word, rows((1, (1,))))
            self.told(program, 2, word, rows((2, (1,)), (1, (1,))))
            self.told(program, 3, word, rows((3, (1,)), (1, (1,))))
            self.told(program, 0, word, None)
        program = one_function(choose(NONE, each(2, 1, gain(0)), both(gain(-9), NONE), both(each(1, 1, gain(5)), every(1, 0, NONE))))
        for word in ("least", "greatest"):
            self.told(program, 0, word, rows((0, (3, 1))))

    def test_an_answer_of_0_is_a_way(self):
        program = by_arg(gain(0), choose(gain(1), call(0, 0)), choose(NONE, call(0, 1)))
        self.least(program, 2, rows((2, (1,)), (1, (1,)), (0, ())))

    def test_rows_in_the_order_of_first_coming(self):
        program = by_arg(gain(1), both(call(0, 0), gain(1)), call(0, 0), both(call(0, 2), call(0, 1)), both(call(0, 1), call(0, 3)))
        self.least(program, 4, rows((4, ()), (1, ()), (3, ()), (0, ()), (2, ())))
        self.least(program, 3, rows((3, ()), (2, ()), (1, ()), (0, ())))
        program = by_arg(gain(1), gain(1), gain(1), both(call(0, 0), call(0, 2)), both(call(0, 2), call(0, 1)), both(call(0, 3), call(0, 4)))
        self.least(program, 5, rows((5, ()), (3, ()), (4, ()), (0, ()), (2, ()), (1, ())))

    def test_each_cell_once(self):
        program = by_arg(gain(1), both(call(0, 0), call(0, 0)), both(call(0, 1), both(call(0, 0), call(0, 1))))
        self.least(program, 2, rows((2, ()), (1, ()), (0, ())))
        self.assertEqual(road_worth(program, {}, rows((2, ()), (1, ()), (0, ()))), 5)

    def test_of_several_functions(self):
        program = program_of((("line", "row"),), (
            ("fa", (num(5), num(5)), choose(call(1, B), both(call(1, A), gain(-1)))),
            ("fb", (num(5),), gain(("at", "line", A))),
        ))
        given = {"line": [7, 3, 4, 5]}
        self.assertEqual(road(program, given, at(0, 2, 1), "least"), [(at(0, 2, 1), (0,)), (at(1, 1), ())])
        self.assertEqual(road(program, given, at(0, 2, 3), "least"), [(at(0, 2, 3), (1,)), (at(1, 2), ())])
        self.assertEqual(road(program, given, at(1, 3), "greatest"), [(at(1, 3), ())])

    def test_none(self):
        for word in ("least", "greatest"):
            for body in (NONE, each(2, 1, gain(1)), both(gain(1), NONE), choose(NONE, NONE), every(1, 2, NONE)):
                self.assertIsNone(road(one_function(body), {}, at(0, 0), word))

    def test_the_askers_own(self):
        told = road(STEPS, {}, at(0, 5), "least")
        kept = copy.deepcopy(told)
        told.clear()
        self.assertEqual(road(STEPS, {}, at(0, 5), "least"), kept)


class Refused(unittest.TestCase):
    def test_by_the_other_words(self):
        programs = [STEPS, one_function(NONE), one_function(gain(1))] + [one_function(body) for body, _ in ENDING]
        for program, word in itertools.product(programs, OTHER_WORDS):
            self.assertRaises(NoRoad, road, program, {}, at(0, 3), word)

    def test_a_fault(self):
        for (body, fault), word in itertools.product(ENDING, ("least", "greatest")):
            for program in (one_function(body), by_arg(body, call(0, 0)), by_arg(body, choose(gain(1), call(0, 0)))):
                self.assertEqual(answer(program, {}, at(0, 1), word), fault)
                self.assertRaises(NoRoad, road, program, {}, at(0, 1), word)

    def test_an_answer_that_is_great(self):
        program = one_function(when(same(A, 0), gain(10 ** 29), every(1, 16, every(1, 16, call(0, less(A, 1))))))
        # 256 to the power 154 has 371 figures.
        self.assertEqual(len(str(road_worth(program, {}, road(program, {}, at(0, 153), "least")))), 398)
        self.assertEqual(len(str(road_worth(program, {}, road(program, {}, at(0, 154), "least")))), 400)
        self.assertEqual(answer(program, {}, at(0, 155), "least"), "great")
        self.assertRaises(NoRoad, road, program, {}, at(0, 155), "least")

    def test_a_great_number_in_a_way_that_is_not_taken(self):
        program = one_function(when(same(A, 0), gain(10 ** 29), choose(gain(0), every(1, 16, every(1, 16, call(0, less(A, 1)))))))
        self.assertEqual(road(program, {}, at(0, 190), "least"), rows((190, (0,))))
        self.assertRaises(NoRoad, road, program, {}, at(0, 190), "greatest")

    def test_no_cell_too_great_ring_in_this_order(self):
        ring = by_arg(gain(1), call(0, 2), call(0, 1), both(call(0, 1), gain(("half", call(0, 0)[2][0]))))
        great = one_function(when(same(A, 0), gain(("full", num(13))), call(0, less(A, 1))))
        both_of_them = one_function(when(same(A, 0), both(call(0, 0), gain(("full", num(13)))), call(0, less(A, 1))))
        for word in WORDS:
            for program in (ring, great, both_of_them):
                for ask in (at(0, 301), at(0, -1), at(1, 0), at(0), at(0, True), [0, (1,)], None):
                    self.assertRaises(NoCell, road, program, {}, ask, word)
                    self.assertRaises(NoCell, is_road, program, {}, ask, [])
            for program in (great, both_of_them):
                self.assertRaises(TooGreat, road, program, {}, at(0, 200), word)
                self.assertRaises(NoRoad, road, great, {}, at(0, 199), word)
            for program, ask, due in ((ring, at(0, 1), [at(0, 1), at(0, 2)]), (both_of_them, at(0, 199), [at(0, 0)])):
                with self.assertRaises(Ring) as caught:
                    road(program, {}, ask, word)
                self.assertEqual(sorted(caught.exception.cells), due)

    def test_is_road_too(self):
        great = one_function(when(same(A, 0), gain(("full", num(13))), call(0, less(A, 1))))
        both_of_them = one_function(when(same(A, 0), both(call(0, 0), gain(("full", num(13)))), call(0, less(A, 1))))
        for thing in [[], None, rows((200, ()))] + ODD:
            self.assertRaises(TooGreat, is_road, great, {}, at(0, 200), thing)
            self.assertRaises(TooGreat, is_road, both_of_them, {}, at(0, 200), thing)
            self.assertRaises(Ring, is_road, both_of_them, {}, at(0, 199), thing)
            self.assertRaises(NoRoad, is_road, great, {}, at(0, 199), thing)

    def test_is_road_where_a_wanted_cell_has_a_fault(self):
        for body, _ in ENDING:
            program = by_arg(body, gain(1), choose(call(0, 1), call(0, 0)))
            for thing in ([], None, rows((2, (0,)), (1, ())), 5, "road"):
                self.assertRaises(NoRoad, is_road, program, {}, at(0, 2), thing)
                self.assertRaises(NoRoad, is_road, program, {}, at(0, 0), thing)
            self.assertIs(is_road(program, {}, at(0, 1), rows((1, ()))), True)

    def test_a_great_answer_is_no_fault_in_a_reading(self):
        program = one_function(when(same(A, 0), gain(10 ** 29), every(1, 16, every(1, 16, call(0, less(A, 1))))))
        due = rows(*[(arg, ()) for arg in reversed(range(200))])
        self.assertIs(is_road(program, {}, at(0, 199), due), True)
        self.assertIs(is_road(program, {}, at(0, 199), due[:-1]), False)
        self.assertEqual(road_worth(program, {}, due), 256 ** 199 * 10 ** 29)


class Many(unittest.TestCase):
    """Two hundred wanted cells, and in each of them more picks than can be gone through one by one."""

    def of(self, inner, word, picks):
        """Each cell but the last calls the next one; the best picks of each are these."""
        program = one_function(when(same(A, 0), gain(1), both(call(0, less(A, 1)), inner)))
        told = road(program, {}, at(0, 199), word)
        self.assertEqual(told, rows(*[(arg, picks(arg)) for arg in reversed(range(1, 200))], (0, ())))
        self.assertIs(is_road(program, {}, at(0, 199), told), True)
        self.assertEqual(road_worth(program, {}, told), answer(program, {}, at(0, 199), word))

    def test_choose_within_choose(self):
        two = choose(gain(3), choose(gain(2), gain(1), gain(1)))
        inner = every(1, 16, both(two, two))
        self.of(inner, "least", lambda arg: (1, 1) * 32)
        self.of(inner, "greatest", lambda arg: (0,) * 32)

    def test_each_within_each(self):
        inner = every(1, 16, each(1, 5, choose(gain(B), gain(C), gain(plus(A, 17)))))
        self.of(inner, "greatest", lambda arg: (1, 2) * 16)
        self.of(inner, "least", lambda arg: (1, 0) + (1, 1) * 15)
        self.of(each(1, 16, each(1, 16, gain(times(B, C)))), "greatest", lambda arg: (16, 16))

    def test_both_of_many_chooses(self):
        inner = both(*[choose(gain(1), gain(0), gain(0))] * 5)
        self.of(inner, "least", lambda arg: (1,) * 5)
        self.of(every(1, 16, inner), "greatest", lambda arg: (0,) * 80)

    def test_two_hundred_cells_in_each_choice(self):
        program = one_function(when(same(A, 0), gain(1), each(("greater", num(0), less(A, 16)), less(A, 1), both(gain(1), call(0, B)))))
        self.assertEqual(road(program, {}, at(0, 199), "greatest"), rows(*[(arg, (arg - 1,)) for arg in range(199, 0, -1)], (0, ())))
        due = [(199 - 16 * k, (183 - 16 * k,)) for k in range(11)]
        # 199 is twelve times 16 and 7: there is one lesser step, of 7, and the lowest first picks go first.
        told = road(program, {}, at(0, 199), "least")
        self.assertEqual(told[:11], rows(*due))
        self.assertEqual(road_worth(program, {}, told), 14)
        self.assertEqual(told, rows(*due, (23, (7,)), (7, (0,)), (0, ())))


class IsRoad(unittest.TestCase):
    PROGRAM = by_arg(gain(1), choose(call(0, 0), gain(2)), both(call(0, 0), gain(1)), both(call(0, 2), call(0, 1)), each(2, 3, call(0, B)))
    ROAD = rows((3, ()), (2, ()), (1, (0,)), (0, ()))

    def is_one(self, thing, ask=3):
        kept = copy.deepcopy(thing)
        told = is_road(self.PROGRAM, {}, at(0, ask), thing)
        self.assertEqual(thing, kept)
        self.assertIsInstance(told, bool)
        return told

    def wrong(self, *things):
        for thing in things:
            self.assertFalse(self.is_one(thing), thing)

    def test_roads(self):
        self.assertTrue(self.is_one(self.ROAD))
        self.assertTrue(self.is_one(rows((3, ()), (2, ()), (1, (1,)), (0, ()))))
        self.assertTrue(self.is_one(rows((4, (2,)), (2, ()), (0, ())), 4))
        self.assertTrue(self.is_one(rows((4, (3,))) + self.ROAD, 4))
        self.assertTrue(self.is_one(rows((0, ())), 0))
        self.assertTrue(self.is_one(rows((1, (1,))), 1))

    def test_other_orders(self):
        due = {(3, 2, 1, 0), (3, 2, 0, 1), (3, 1, 2, 0), (3, 1, 0, 2)}
        for order in itertools.permutations(range(4)):
            self.assertIs(self.is_one([self.ROAD[3 - arg] for arg in order]), order in due, order)

    def test_a_cell_that_is_not_led_to_ahead(self):
        self.wrong(rows((3, ()), (0, ()), (2, ()), (1, (0,))), rows((3, ()), (0, ()), (2, ()), (1, (1,))))
        # By these picks 1 does not lead to 0, but 2 does.
        self.wrong(rows((3, ()), (1, (1,)), (0, ()), (2, ())))
        self.assertTrue(self.is_one(rows((3, ()), (1, (1,)), (2, ()), (0, ()))))

    def test_a_cell_twice(self):
        for row in self.ROAD:
            self.wrong(self.ROAD + [row])
        self.wrong(rows((3, ()), (3, ()), (2, ()), (1, (0,)), (0, ())))
        self.wrong(self.ROAD + rows((1, (1,))))

    def test_a_row_left_out(self):
        for place in range(4):
            self.wrong(self.ROAD[:place] + self.ROAD[place + 1:])
        self.wrong([])

    def test_a_row_too_many(self):
        self.wrong(self.ROAD + rows((4, (2,))), rows((4, (3,))) + self.ROAD, rows((1, (1,)), (0, ())) + self.ROAD)
        self.assertFalse(self.is_one(rows((1, (1,)), (0, ())), 1))
        self.assertFalse(self.is_one(rows((4, (2,)), (2, ()), (0, ()), (3, ()), (1, (1,))), 4))

    def test_another_ask(self):
        for ask in (0, 1, 2, 4):
            self.assertFalse(self.is_one(self.ROAD, ask))
        self.assertFalse(self.is_one(self.ROAD[1:], 2))

    def test_picks_that_are_not_right(self):
        for picks in ((), (2,), (-1,), (0, 0), (None,), ("0",), [0], 0, None, "0", {0}, (True,), (False,), ((0,),)):
            self.wrong(rows((3, ()), (2, ()), (1, picks), (0, ())))
        for place in range(4):
            self.wrong(self.ROAD[:place] + [(self.ROAD[place][0], (0, 0))] + self.ROAD[place + 1:])

    def test_a_none_that_is_met(self):
        program = by_arg(NONE, choose(call(0, 0), gain(1)), choose(NONE, gain(1)))
        self.assertIs(is_road(program, {}, at(0, 1), rows((1, (0,)), (0, ()))), False)
        self.assertIs(is_road(program, {}, at(0, 1), rows((1, (1,)))), True)
        self.assertIs(is_road(program, {}, at(0, 2), rows((2, (0,)))), False)

    def test_a_list_for_a_tuple(self):
        self.wrong(tuple(self.ROAD), [list(row) for row in self.ROAD], dict(self.ROAD), [self.ROAD], (self.ROAD,))
        for place, (cell, picks) in enumerate(self.ROAD):
            for row in ([cell, picks], (list(cell), picks), ((0, list(cell[1])), picks), (cell, list(picks))):
                self.wrong(self.ROAD[:place] + [row] + self.ROAD[place + 1:])

    def test_a_truth_for_a_number(self):
        self.wrong(rows((3, ()), (2, ()), (True, (0,)), (0, ())), rows((3, ()), (2, ()), (1, (False,)), (0, ())))
        self.wrong(rows((3, ()), (2, ()), (1, (0,)), (False, ())))
        for place, (cell, picks) in enumerate(self.ROAD):
            self.wrong(self.ROAD[:place] + [((False, cell[1]), picks)] + self.ROAD[place + 1:])
        self.assertFalse(self.is_one(rows((False, ())), 0))

    def test_rows_of_other_lengths(self):
        for place, row in enumerate(self.ROAD):
            for other in (row[:1], row + (0,), row + ((),), (row,), ()):
                self.wrong(self.ROAD[:place] + [other] + self.ROAD[place + 1:])

    def test_cells_that_are_none(self):
        for cell in (at(0, 301), at(0, -1), at(1, 0), at(0), at(0, 0, 0), at(-1, 0)):
            self.wrong(self.ROAD + [(cell, ())], self.ROAD[:3] + [(cell, ())], [(cell, ())])

    def test_whatever_it_is(self):
        for thing in ODD + [nested(58, self.ROAD), "x" * 30000, list(range(1000)), [[]] * 1000, [()] * 1000, 10 ** 29]:
            self.assertIs(is_road(self.PROGRAM, {}, at(0, 3), thing), False)
            for bad in ([thing], [(thing, ())], [(thing, thing)], [((0, thing), ())], [((0, (thing,)), ())], [((thing, (0,)), ())]):
                self.assertIs(is_road(self.PROGRAM, {}, at(0, 3), bad), False)
                self.assertIs(is_road(self.PROGRAM, {}, at(0, 3), self.ROAD + bad), False)
                self.assertIs(is_road(self.PROGRAM, {}, at(0, 3), self.ROAD[:2] + bad + self.ROAD[2:]), False)
            if not isinstance(thing, tuple) or thing != (0,):
                self.assertIs(is_road(self.PROGRAM, {}, at(0, 3), rows((3, ()), (2, ()), (1, thing), (0, ()))), False)
            if isinstance(thing, bool) or not isinstance(thing, int) or thing not in (0, 1):
                self.assertIs(is_road(self.PROGRAM, {}, at(0, 3), rows((3, ()), (2, ()), (1, (thing,)), (0, ()))), False)

    def test_a_thousand_rows(self):
        self.wrong(self.ROAD * 250)


class Worth(unittest.TestCase):
    def test_gains_added(self):
        program = one_function(both(gain(3), both(gain(-5), every(1, 3, gain(B)))))
        self.assertEqual(road_worth(program, {}, rows((0, ()))), 4)
        self.assertEqual(road_worth(one_function(every(2, 1, gain(1))), {}, rows((0, ()))), 0)
        self.assertEqual(road_worth(STEPS, {}, rows((5, (1,)), (3, (0,)), (2, (1,)), (0, ()))), 25 + 9 + 4 + 3)

    def test_cells_as_often_as_they_come(self):
        program = by_arg(gain(1), both(gain(10), both(call(0, 0), call(0, 0))), gain(100), both(call(0, 1), every(0, 2, call(0, B))))
        self.assertEqual(road_worth(program, {}, rows((3, ()), (1, ()), (0, ()), (2, ()))), 12 + 1 + 12 + 100)

    def test_by_where_the_rows_stand(self):
        program = by_arg(gain(1), both(call(0, 0), gain(2)), both(call(0, 0), gain(4)), both(call(0, 1), both(call(0, 2), call(0, 1))))
        for order in itertools.permutations([(2, ()), (1, ()), (0, ())]):
            self.assertEqual(road_worth(program, {}, rows((3, ()), *order)), 3 + 5 + 3)

    def test_a_row_ahead_of_those_that_call_it(self):
        program = by_arg(gain(1), both(call(0, 0), gain(2)), both(call(0, 1), gain(4)), both(call(0, 0), both(call(0, 1), call(0, 2))))
        for order in itertools.permutations([(2, ()), (1, ()), (0, ())]):
            self.assertEqual(road_worth(program, {}, rows((3, ()), *order)), 1 + 3 + 7)

    def test_a_thousand_million_times_and_more(self):
        program = one_function(when(same(A, 0), gain(1), both(call(0, less(A, 1)), call(0, less(A, 1)))))
        for ask in (30, 199, 250):
            self.assertEqual(road_worth(program, {}, rows(*[(arg, ()) for arg in range(ask, -1, -1)])), 2 ** ask)
        program = one_function(when(same(A, 0), gain(3), every(1, 16, every(1, 16, call(0, less(A, 1))))))
        told = road(program, {}, at(0, 100), "greatest")
        self.assertEqual(road_worth(program, {}, told), 3 * 256 ** 100)

    def test_cells_without_a_row_change_nothing(self):
        for body, _ in ENDING:
            program = by_arg(body, gain(7), choose(call(0, 1), call(0, 0)))
            self.assertEqual(road_worth(program, {}, rows((2, (0,)), (1, ()))), 7)
        program = one_function(when(below(A, 2), gain(7), choose(call(0, 1), call(0, less(A, 1)))))
        self.assertEqual(road_worth(program, {}, rows((300, (0,)), (1, ()))), 7)

    def test_of_its_first_cell(self):
        self.assertEqual(road_worth(STEPS, {}, rows((3, (1,)), (1, ()))), 13)
        self.assertEqual(road_worth(STEPS, {}, rows((2, (0,)), (1, ()))), 8)

    def test_nothing_is_changed(self):
        one = rows((3, (1,)), (1, ()))
        kept = copy.deepcopy(one)
        self.assertEqual(road_worth(STEPS, {}, one), road_worth(STEPS, {}, one))
        self.assertEqual(one, kept)


if __name__ == "__main__":
    unittest.main()
