"""Point 23: picks, and what they lead to."""

import copy
import itertools
import random
import unittest

import making
import oracle
from odd_things import ODD
from roomtables.cells import mosts_of
from roomtables.givens import given_of
from roomtables.picks import led
from roomtables.programs import program_of
from roomtables.readings import cell_worth, fault_of, wants
from writing import A, B, C, NO, NONE, YES, at, below, both, call, choose, each, every, gain, half, less, num, plus, same, times, when


class Picks(unittest.TestCase):
    def told(self, body, picks, arg=5):
        program = program_of((("line", "row"),), (("fa", (num(20),), body), ("fb", (num(20), num(20)), gain(1))))
        given = given_of(program, {"line": [3, 0, 5]})
        kept = copy.deepcopy((given, picks))
        told = led(program, given, at(0, arg), picks)
        self.assertEqual((given, picks), kept)
        return told

    def leads(self, body, picks, cells, gains, arg=5):
        """The picks lead to these cells of the first function and these gains."""
        told = self.told(body, picks, arg)
        self.assertIs(type(told), tuple)
        self.assertEqual([type(one) for one in told], [list, list])
        self.assertEqual(told, ([at(0, one) if isinstance(one, int) else one for one in cells], gains), (body, picks))

    def wrong(self, body, *many):
        for picks in many:
            self.assertIsNone(self.told(body, picks), (body, picks))


class Ways(Picks):
    def test_without_picks(self):
        self.leads(gain(3), (), [], [3])
        self.leads(call(0, 3), (), [3], [])
        self.leads(call(1, 3, A), (), [at(1, 3, 5)], [])
        self.leads(both(gain(3), call(0, 4)), (), [4], [3])
        self.wrong(gain(3), (0,), (0, 0))
        self.wrong(call(0, 3), (0,))

    def test_at_a_choose(self):
        body = choose(gain(3), call(0, 4), both(gain(1), call(0, 2)))
        self.leads(body, (0,), [], [3])
        self.leads(body, (1,), [4], [])
        self.leads(body, (2,), [2], [1])
        self.wrong(body, (), (3,), (-1,), (-3,), (4,), (0, 0), (1, 1), (10 ** 29,), (-10 ** 29,))
        self.leads(choose(gain(3)), (0,), [], [3])
        self.wrong(choose(gain(3)), (), (1,), (-1,))

    def test_at_an_each(self):
        body = each(2, 4, both(gain(B), call(0, times(B, 2))))
        for turn in (2, 3, 4):
            self.leads(body, (turn,), [2 * turn], [turn])
        self.wrong(body, (), (0,), (1,), (5,), (-1,), (2, 3), (2, 2))
        body = each(-2, 1, gain(B))
        for turn in (-2, -1, 0, 1):
            self.leads(body, (turn,), [], [turn])
        self.wrong(body, (-3,), (2,))
        body = each(10 ** 29, 10 ** 29 + 15, gain(less(B, 10 ** 29)))
        self.leads(body, (10 ** 29,), [], [0])
        self.leads(body, (10 ** 29 + 15,), [], [15])
        self.wrong(body, (10 ** 29 + 16,), (10 ** 29 - 1,), (0,))
        self.leads(each(A, A, gain(B)), (5,), [], [5])

    def test_at_an_each_without_turns(self):
        self.wrong(each(2, 1, gain(B)), (), (0,), (1,), (2,), (-1,))
        self.wrong(both(gain(1), each(2, 1, gain(B))), (), (1,), (2,))
        self.leads(choose(gain(1), each(2, 1, gain(B))), (0,), [], [1])
        self.wrong(choose(gain(1), each(2, 1, gain(B))), (1,), (1, 1), (1, 2))

    def test_in_an_all(self):
        self.leads(every(1, 3, both(gain(B), call(0, B))), (), [1, 2, 3], [1, 2, 3])
        body = every(1, 3, choose(gain(B), call(0, B)))
        for picks in itertools.product((0, 1), repeat=3):
            cells = [turn for turn, pick in zip((1, 2, 3), picks) if pick == 1]
            gains = [turn for turn, pick in zip((1, 2, 3), picks) if pick == 0]
            self.leads(body, picks, cells, gains)
        self.wrong(body, (), (0,), (0, 0), (0, 0, 0, 0), (0, 2, 0), (0, 0, 2))
        self.leads(every(2, 1, NONE), (), [], [])
        self.wrong(every(2, 1, choose(gain(1))), (0,))
        body = every(1, 2, each(B, 2, gain(plus(times(B, 10), C))))
        self.leads(body, (1, 2), [], [11, 22])
        self.leads(body, (2, 2), [], [12, 22])
        self.wrong(body, (1, 1), (2, 1), (2,), (2, 2, 2))

    def test_in_an_if(self):
        body = when(below(A, 6), choose(gain(1), gain(2)), each(7, 9, gain(B)))
        self.leads(body, (1,), [], [2], arg=5)
        self.leads(body, (8,), [], [8], arg=6)
        self.assertIsNone(self.told(body, (8,), 5))
        self.assertIsNone(self.told(body, (1,), 6))
        self.leads(when(YES, gain(1), NONE), (), [], [1])
        self.wrong(when(NO, gain(1), NONE), ())
        body = each(0, 3, when(same(("rest", B, num(2)), 0), choose(gain(B), gain(7)), call(0, B)))
        self.leads(body, (1,), [1], [])
        self.leads(body, (2, 0), [], [2])
        self.leads(body, (0, 1), [], [7])
        self.wrong(body, (0,), (2,), (1, 0), (2, 2))

    def test_in_a_both(self):
        body = both(choose(gain(1), gain(2)), each(3, 4, gain(B)))
        for one, other in itertools.product((0, 1), (3, 4)):
            self.leads(body, (one, other), [], [one + 1, other])
        self.wrong(body, (0,), (3,), (3, 0), (0, 0), (0, 3, 3), ())

    def test_within_one_another(self):
        body = choose(choose(gain(1), gain(2)), each(0, 2, choose(gain(B), call(0, B))), gain(9))
        self.leads(body, (0, 1), [], [2])
        self.leads(body, (1, 2, 0), [], [2])
        self.leads(body, (1, 2, 1), [2], [])
        self.leads(body, (2,), [], [9])
        self.wrong(body, (0,), (1,), (1, 2), (2, 0), (1, 3, 0), (0, 2), (1, 2, 2))
        body = each(1, 2, each(B, 3, both(call(0, B), gain(C))))
        self.leads(body, (2, 3), [2], [3])
        self.leads(body, (1, 1), [1], [1])
        self.wrong(body, (2, 1), (3, 3), (1,), (1, 4))

    def test_the_outer_pick_goes_first(self):
        body = choose(choose(gain(1), gain(2), gain(3)), gain(4))
        self.leads(body, (0, 2), [], [3])
        self.wrong(body, (2, 0))

    def test_a_none_that_is_met(self):
        self.wrong(NONE, (), (0,))
        body = choose(gain(1), NONE, both(gain(1), NONE), both(NONE, gain(1)))
        self.leads(body, (0,), [], [1])
        self.wrong(body, (1,), (2,), (3,))
        self.wrong(every(0, 2, when(same(B, 1), NONE, gain(1))), ())
        body = both(choose(gain(1), NONE), choose(NONE, gain(2)))
        self.leads(body, (0, 1), [], [1, 2])
        self.wrong(body, (0, 0), (1, 1), (1, 0))

    def test_what_is_not_gone_through(self):
        body = choose(both(call(0, 1), NONE), call(0, 2), both(each(0, 3, gain(B)), choose(NONE)))
        self.leads(body, (1,), [2], [])


class Led(Picks):
    def test_calls_each_as_often_as_it_comes(self):
        body = both(call(0, 3), both(call(0, 1), both(call(0, 3), call(1, 3, 1))))
        self.leads(body, (), [3, 1, 3, at(1, 3, 1)], [])
        self.leads(every(1, 4, call(0, half(B))), (), [0, 1, 1, 2], [])
        self.leads(call(0, A), (), [5], [])

    def test_gains_in_order(self):
        body = both(gain(3), both(gain(-1), both(gain(3), gain(("at", "line", num(2))))))
        self.leads(body, (), [], [3, -1, 3, 5])
        self.leads(every(1, 3, gain(less(2, B))), (), [], [1, 0, -1])

    def test_the_askers_own(self):
        body = both(call(0, 3), choose(gain(1), gain(2)))
        cells, gains = self.told(body, (1,))
        cells.clear()
        gains.append(None)
        self.leads(body, (1,), [3], [2])


class Kinds(Picks):
    def test_whatever_stands_in_the_tuple(self):
        bodies = (choose(gain(1), gain(2)), each(0, 1, gain(B)), both(choose(gain(1), gain(2)), gain(3)))
        for thing in ODD + [0.5, "0", b"0", (0,), [0], {0}, None, True, False, (1,), "1"]:
            if isinstance(thing, int) and not isinstance(thing, bool):
                continue
            for body in bodies:
                self.assertIsNone(self.told_of(body, (thing,)), thing)
                self.assertIsNone(self.told_of(body, (0, thing)), thing)
                self.assertIsNone(self.told_of(body, (thing, 0)), thing)
            self.assertIsNone(self.told_of(gain(1), (thing,)), thing)

    def told_of(self, body, picks):
        program = program_of((), (("fa", (num(20),), body),))
        return led(program, {}, at(0, 5), picks)

    def test_truths_are_no_picks(self):
        self.wrong(choose(gain(1), gain(2)), (True,), (False,))
        self.wrong(each(0, 1, gain(B)), (True,), (False,))
        self.wrong(both(choose(gain(1), gain(2)), choose(gain(1), gain(2))), (0, True), (True, 0), (False, False))

    def test_they_are_a_tuple(self):
        self.wrong(choose(gain(1), gain(2)), [0], [1], {0: 1}, "0", None, 0)
        self.wrong(gain(1), [], {}, "", None, 0)

    def test_many(self):
        self.wrong(choose(gain(1), gain(2)), (0,) * 1000, tuple(range(1000)))
        self.wrong(gain(1), (0,) * 1000)


class ByOracle(unittest.TestCase):
    def test_all_right_picks(self):
        chance = random.Random(51)
        many = 0
        for n in range(500):
            program = making.a_falling_program(chance) if n % 2 else making.a_program(chance)
            given = making.a_given(chance, program)
            for cell in making.some_cells(chance, mosts_of(program, given), 2):
                ways = {one: 1 for one in wants(program, given, cell)}
                if fault_of(program, given, cell) is not None or not 0 <= cell_worth(program, given, cell, "ways", ways) <= 400:
                    continue
                right = oracle.all_picks(program, given, cell)
                self.assertEqual(cell_worth(program, given, cell, "ways", ways), len(right))
                many += len(right)
                for picks, due in right.items():
                    self.assertEqual(led(program, given, cell, picks), due)
                for picks in self.others(chance, right):
                    self.assertIsNone(led(program, given, cell, picks))
        self.assertGreater(many, 1000)

    def others(self, chance, right):
        """Picks near the right ones that aren't right."""
        near = [()]
        for picks in list(right)[:20]:
            near += [picks + (0,), picks[:-1], picks[1:], tuple(reversed(picks))]
            for place in range(len(picks)):
                near.append(picks[:place] + (picks[place] + chance.choice([1, -1]),) + picks[place + 1:])
        return [picks for picks in near if picks not in right]


if __name__ == "__main__":
    unittest.main()
