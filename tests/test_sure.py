"""Point 19: the rules that are sure of a program."""

import copy
import random
import unittest

import making
import oracle
from roomtables.cells import mosts_of
from roomtables.errors import TooGreat
from roomtables.lines import calls_of, gap, is_sure, sure_rules
from roomtables.programs import program_of
from roomtables.rules import is_right, right_rules, rules
from test_rules import BITS, BITS1, DOWN, DOWN1, KEYS, UP, UP1, UP2, WIDE, WIDE1
from writing import A, B, C, NONE, at, below, both, call, choose, each, gain, half, less, num, plus, same, when


def made(*bodies, places=1):
    names = ("fa", "fb", "fc", "fd")
    return program_of((("line", "row"),), tuple((name, (num(9),) * places, body) for name, body in zip(names, bodies)))


class Sure(unittest.TestCase):
    def told(self, program):
        """The sure rules, which are those that are sure one by one."""
        kept = copy.deepcopy(program)
        told = sure_rules(program)
        self.assertIs(type(told), list)
        for rule in rules():
            self.assertIs(is_sure(program, rule), rule in told)
        self.assertEqual(told, [rule for rule in rules() if rule in told])
        self.assertEqual(program, kept)
        return told

    def singles(self, program):
        return [rule[0] for rule in self.told(program) if len(rule) == 1]


class ByGaps(Sure):
    def test_without_calls(self):
        self.assertEqual(self.told(made(gain(1))), rules())
        self.assertEqual(self.told(made(NONE, gain(half(A)))), rules())

    def test_by_the_first_gap_below_0(self):
        told = self.told(made(call(0, less(A, 1))))
        self.assertEqual([rule for rule in told if len(rule) == 1], [(UP,)])
        self.assertNotIn((), told)
        # 0 ahead of it, and anything behind it.
        for key in KEYS:
            if key != UP:
                self.assertEqual((key, UP) in told, key not in (DOWN, WIDE, BITS), key)
                self.assertIn((UP, key), told)

    def test_what_is_above_0_or_none_is_not_sure(self):
        self.assertEqual(self.singles(made(call(0, plus(A, 1)))), [DOWN, WIDE])
        self.assertEqual(self.told(made(call(0, half(A)))), [])
        self.assertEqual(self.told(made(call(0, 0))), [])
        self.assertEqual(self.told(made(call(0, A))), [])
        told = self.told(made(call(0, half(A), less(B, 1)), places=2))
        self.assertEqual([rule for rule in told if len(rule) == 1], [(UP1,)])
        self.assertNotIn((UP, UP1), told)
        self.assertIn((UP1, UP), told)
        told = self.told(made(call(0, plus(A, 1), less(B, 1)), places=2))
        self.assertIn((WIDE,), told)
        self.assertIn((DOWN, UP1), told)
        self.assertNotIn((UP, UP1), told)

    def test_by_the_functions(self):
        self.assertEqual(self.told(made(gain(1), call(0, A))), rules())
        self.assertEqual(self.told(made(call(1, A), gain(1))), [])
        told = self.told(made(gain(1), call(0, half(A))))
        self.assertIn((), told)
        self.assertIn((UP1,), told)
        self.assertNotIn((UP,), told)
        self.assertNotIn((UP1, BITS), told)
        self.assertIn((UP1, BITS1), told)
        self.assertEqual(self.told(made(gain(1), call(1, half(A)))), [])

    def test_all_0_and_the_functions(self):
        told = self.told(made(call(1, less(A, 1)), call(0, A)))
        self.assertEqual([rule for rule in told if len(rule) == 1], [(UP,)])
        self.assertNotIn((), told)
        self.assertEqual(self.told(made(call(1, A), call(0, less(A, 1)))), [])

    def test_each_call_counts(self):
        self.assertEqual(self.singles(made(both(call(0, less(A, 1)), call(0, less(A, 2))))), [UP])
        self.assertEqual(self.told(made(both(call(0, less(A, 1)), call(0, plus(A, 2))))), [])
        self.assertEqual(self.told(made(both(call(0, less(A, 1)), call(0, A)))), [])
        self.assertEqual(self.told(made(both(call(0, less(A, 1)), half_of()))), [])
        self.assertEqual(self.told(made(call(0, less(A, 1)), call(1, plus(A, 1)))), [])

    def test_what_is_not_due_counts_too(self):
        self.assertEqual(self.told(made(when(same(1, 2), call(0, A), gain(1)))), [])

    def test_two_keys(self):
        # Either the first number falls, or it stays and the second one does.
        body = both(call(0, less(A, 1), half(B)), call(0, A, less(B, 1)))
        told = self.told(made(body, places=2))
        self.assertEqual([rule for rule in told if len(rule) < 2], [])
        self.assertIn((UP, UP1), told)
        self.assertNotIn((UP1, UP), told)
        self.assertNotIn((UP, DOWN1), told)
        self.assertNotIn((UP, UP2), told)

    def test_wide_and_turns(self):
        body = each(A, less(B, 1), both(call(0, A, C), call(0, plus(C, 1), B)))
        told = self.told(made(body, places=2))
        self.assertEqual([rule for rule in told if len(rule) == 1], [(WIDE,)])
        body = each(B, less(C, 1), call(0, A, B, ("own", 3)))
        self.assertEqual(self.singles(made(body, places=3)), [UP2, WIDE1])

    def test_bits_alone_are_never_sure_of_a_function_itself(self):
        body = each(0, 3, call(0, ("without", A, B)))
        self.assertEqual(self.told(made(body)), [])
        self.assertIn((BITS,), self.told(made(gain(1), call(0, ("without", A, num(1))))))
        self.assertNotIn((BITS,), self.told(made(gain(1), call(0, ("with", A, num(1))))))
        self.assertIn((BITS, UP1), self.told(made(call(0, ("without", A, num(0)), less(B, 1)), places=2)))

    def test_by_the_words(self):
        chance = random.Random(41)
        many = 0
        for _ in range(300):
            program = making.a_lined_program(chance)
            for rule in rules()[::7]:
                due = all(self.falls(program, f, n, g, rule) for f, n, g in calls_of(program))
                self.assertIs(is_sure(program, rule), due)
                many += due
        self.assertGreater(many, 50)

    def falls(self, program, f, n, g, rule):
        gaps = [gap(program, f, n, key) for key in rule]
        for place, one in enumerate(gaps):
            if one is not None and one < 0 and gaps[:place] == [0] * place:
                return True
        return gaps == [0] * len(gaps) and g < f

    def test_the_askers_own(self):
        program = made(call(0, less(A, 1)))
        told = sure_rules(program)
        kept = list(told)
        told.clear()
        self.assertEqual(sure_rules(program), kept)


def half_of():
    return call(0, half(A))


class Right(Sure):
    def test_a_sure_rule_is_right_for_each_ask(self):
        chance = random.Random(42)
        many = 0
        for n in range(400):
            program = making.a_falling_program(chance) if n % 2 else making.a_lined_program(chance)
            sure = sure_rules(program)
            for _ in range(2):
                given = making.a_given(chance, program)
                for ask in making.some_cells(chance, mosts_of(program, given), 2 if sure else 0):
                    if len(oracle.hanging(program, given, ask)) > 200:
                        self.assertRaises(TooGreat, right_rules, program, given, ask)
                        continue
                    right = right_rules(program, given, ask)
                    self.assertEqual([rule for rule in sure if rule not in right], [])
                    many += len(sure)
        self.assertGreater(many, 1000)

    def test_a_right_rule_need_not_be_sure(self):
        program = made(when(same(A, 0), gain(1), call(0, half(A))))
        self.assertTrue(is_right(program, {"line": []}, at(0, 9), (UP,)))
        self.assertFalse(is_sure(program, (UP,)))
        program = made(when(below(A, 5), gain(1), choose(call(0, less(A, 1)), call(0, 0))))
        self.assertTrue(is_right(program, {"line": []}, at(0, 9), (UP,)))
        self.assertFalse(is_sure(program, (UP,)))

    def test_down(self):
        program = made(when(below(A, 9), call(0, plus(A, 1)), gain(1)))
        self.assertIn((DOWN,), self.told(program))
        self.assertNotIn((DOWN1,), self.told(program))


if __name__ == "__main__":
    unittest.main()
