"""Point 17: all rules, ranks, and the rules that are right for an ask."""

import copy
import unittest

from roomtables.errors import TooGreat
from roomtables.givens import given_of
from roomtables.orders import wanted
from roomtables.programs import program_of
from roomtables.readings import wants
from roomtables.rules import is_right, rank, right_rules, rules
from writing import A, B, C, ENDING, NONE, at, below, both, call, choose, each, gain, half, less, num, plus, same, when

KEYS = [
    ("up", 0), ("up", 1), ("up", 2), ("down", 0), ("down", 1), ("down", 2), ("wide", 0), ("wide", 1),
    ("bits", 0), ("bits", 1), ("bits", 2),
]
UP, UP1, UP2, DOWN, DOWN1, DOWN2, WIDE, WIDE1, BITS, BITS1, BITS2 = KEYS


def one_of(body, places=1, most=300):
    return program_of((), (("fa", (num(most),) * places, body),))


class AllRules(unittest.TestCase):
    def test_in_their_order(self):
        told = rules()
        self.assertIs(type(told), list)
        self.assertEqual(len(told), 122)
        self.assertEqual(told[0], ())
        self.assertEqual(told[1:12], [(key,) for key in KEYS])
        self.assertEqual(told[12:22], [(UP, key) for key in KEYS if key != UP])
        self.assertEqual(told[22:32], [(UP1, key) for key in KEYS if key != UP1])
        self.assertEqual(told[112:], [(BITS2, key) for key in KEYS if key != BITS2])
        due = [(first, second) for first in KEYS for second in KEYS if second != first]
        self.assertEqual(told[12:], due)

    def test_each_once(self):
        self.assertEqual(len(set(rules())), 122)

    def test_the_askers_own(self):
        told = rules()
        told.clear()
        told.append(None)
        self.assertEqual(len(rules()), 122)
        self.assertEqual(rules()[0], ())


class Ranks(unittest.TestCase):
    def same(self, rule, cell, due):
        told = rank(rule, cell)
        self.assertEqual(told, due, (rule, cell))
        self.assertEqual([type(one) for one in told], [int] * len(due))
        self.assertIs(type(told), tuple)

    def by_keys(self, cell, *due):
        for key, number in zip(KEYS, due):
            self.same((key,), cell, (number, cell[0]))

    def test_each_key_at_each_place(self):
        self.by_keys(at(2, 7, 12, 3), 7, 12, 3, -7, -12, -3, 5, -9, 3, 2, 2)
        self.by_keys(at(0, 0, 0, 0), 0, 0, 0, 0, 0, 0, 0, 0, 0, 0, 0)
        self.by_keys(at(3, 255, 256, 1023), 255, 256, 1023, -255, -256, -1023, 1, 767, 8, 1, 10)

    def test_places_that_are_not_there(self):
        self.by_keys(at(1, 6), 6, 0, 0, -6, 0, 0, -6, 0, 2, 0, 0)
        self.by_keys(at(1, 6, 9), 6, 9, 0, -6, -9, 0, 3, -9, 2, 2, 0)

    def test_great_numbers(self):
        great = 10 ** 30 - 1
        self.by_keys(at(0, great), great, 0, 0, -great, 0, 0, -great, 0, bin(great).count("1"), 0, 0)
        self.by_keys(at(0, 2 ** 90, 2 ** 91), 2 ** 90, 2 ** 91, 0, -2 ** 90, -2 ** 91, 0, 2 ** 90, -2 ** 91, 1, 1, 0)

    def test_rules_of_none_and_two(self):
        self.same((), at(3, 5), (3,))
        self.same((), at(0, 5, 6), (0,))
        self.same((UP, UP1), at(2, 5, 6), (5, 6, 2))
        self.same((UP1, UP), at(2, 5, 6), (6, 5, 2))
        self.same((WIDE, DOWN), at(1, 5, 9), (4, -5, 1))
        self.same((BITS, UP2), at(1, 7, 9), (3, 0, 1))
        self.same((BITS1, WIDE1), at(1, 7, 9, 4), (2, -5, 1))

    def test_all_rules_by_their_keys(self):
        for cell in (at(0, 3), at(2, 9, 1), at(1, 5, 5, 13)):
            for rule in rules():
                due = tuple(rank((key,), cell)[0] for key in rule) + (cell[0],)
                self.assertEqual(rank(rule, cell), due)


class Right(unittest.TestCase):
    def told(self, program, ask, things=None):
        """The right rules, which are those that are right one by one."""
        given = given_of(program, things or {})
        kept = copy.deepcopy(given)
        told = right_rules(program, given, ask)
        self.assertIs(type(told), list)
        for rule in rules():
            self.assertIs(is_right(program, given, ask, rule), rule in told)
            self.assertIs(is_right(program, given, ask, rule), self.looked_at(program, given, ask, rule))
        self.assertEqual(told, [rule for rule in rules() if rule in told])
        self.assertEqual(given, kept)
        return told

    def looked_at(self, program, given, ask, rule):
        """Whether the rule is right, cell by cell."""
        for cell in wanted(program, given, ask):
            for want in wants(program, given, cell):
                if not rank(rule, cell) > rank(rule, want):
                    return False
        return True

    def singles(self, program, ask, things=None):
        return [rule[0] for rule in self.told(program, ask, things) if len(rule) == 1]

    def test_without_wants_all_are(self):
        for body in (gain(1), NONE):
            self.assertEqual(self.told(one_of(body), at(0, 5)), rules())

    def test_of_one_place(self):
        chain = one_of(when(same(A, 0), gain(1), call(0, less(A, 1))))
        self.assertEqual(self.singles(chain, at(0, 9)), [UP])
        self.assertEqual(self.singles(chain, at(0, 0)), KEYS)
        # From 1 to 0 the bits fall, too.
        self.assertEqual(self.singles(chain, at(0, 1)), [UP, BITS])
        told = self.told(chain, at(0, 9))
        self.assertNotIn((), told)
        # What is 0 for all leaves it to the key behind it; what rises or falls otherwise does not.
        for first in KEYS:
            self.assertEqual((first, UP) in told, first in (UP1, UP2, DOWN1, DOWN2, WIDE1, BITS1, BITS2))
            self.assertEqual((UP, first) in told, first != UP)

    def test_down(self):
        chain = one_of(when(below(A, 9), call(0, plus(A, 1)), gain(1)))
        self.assertEqual(self.singles(chain, at(0, 3)), [DOWN, WIDE])

    def test_wide(self):
        body = when(below(A, B), choose(call(0, plus(A, 1), B), call(0, A, less(B, 1))), gain(1))
        told = self.told(one_of(body, 2), at(0, 2, 6))
        self.assertEqual([rule for rule in told if len(rule) == 1], [(WIDE,)])
        self.assertIn((DOWN, UP1), told)
        self.assertIn((UP1, DOWN), told)
        self.assertNotIn((UP, UP1), told)
        self.assertNotIn((DOWN, WIDE1), told)
        body = when(below(B, C), choose(call(0, A, plus(B, 1), C), call(0, A, B, less(C, 1))), gain(1))
        self.assertEqual(self.singles(one_of(body, 3), at(0, 9, 2, 6)), [WIDE1])

    def test_bits(self):
        body = when(same(A, 0), gain(1), each(0, 3, when(("has", A, B), call(0, ("without", A, B)), NONE)))
        self.assertEqual(self.singles(one_of(body), at(0, 15)), [UP, BITS])
        # One bit less, though the number rises: 3, 4, 0.
        body = when(same(A, 3), call(0, 4), when(same(A, 4), call(0, 0), gain(1)))
        self.assertEqual(self.singles(one_of(body), at(0, 3)), [BITS])
        for place, key in ((1, BITS1), (2, BITS2)):
            own = ("own", place)
            args = [num(0)] * 3
            body = lambda n: call(0, *[num(n) if at == place else one for at, one in enumerate(args)])
            told = when(same(own, 3), body(4), when(same(own, 4), body(0), gain(1)))
            cell = (0, tuple(3 if at == place else 0 for at in range(3)))
            self.assertIn(key, self.singles(one_of(told, 3), cell))

    def test_places(self):
        for place in range(3):
            own = ("own", place)
            args = [less(own, 1) if at == place else ("own", at) for at in range(3)]
            program = one_of(when(same(own, 0), gain(1), call(0, *args)), 3)
            due = [("up", place)] + [("wide", place - 1)] * (place > 0)
            # The wide one of which this place is the lower end rises.
            self.assertEqual(self.singles(program, (0, (4, 4, 4))), due)
            args = [plus(own, 1) if at == place else ("own", at) for at in range(3)]
            program = one_of(when(same(own, 9), gain(1), call(0, *args)), 3)
            due = [("down", place)] + [("wide", place)] * (place < 2)
            self.assertEqual(self.singles(program, (0, (4, 4, 4))), due)

    def test_by_the_functions_number(self):
        program = program_of((), (("fa", (num(9),), gain(1)), ("fb", (num(9),), call(0, A))))
        told = self.told(program, at(1, 5))
        self.assertEqual(told, rules())
        program = program_of((), (("fa", (num(9),), call(1, A)), ("fb", (num(9),), gain(1))))
        self.assertEqual(self.told(program, at(0, 5)), [])
        program = program_of((), (("fa", (num(9),), when(same(A, 0), gain(1), call(1, less(A, 1)))), ("fb", (num(9),), call(0, A))))
        told = self.told(program, at(0, 6))
        self.assertIn((UP,), told)
        self.assertNotIn((), told)

    def test_places_that_a_function_has_not(self):
        """Of wide 0, a function of one place has 0 less its number."""
        program = program_of((), (("fa", (num(9),), gain(1)), ("fb", (num(9), num(9)), call(0, A))))
        told = self.told(program, at(1, 3, 2))
        # up 1: 2, then 0; wide 0: -1, then -3; down 1: -2, then 0.
        self.assertIn((UP1,), told)
        self.assertIn((WIDE,), told)
        self.assertNotIn((DOWN1,), told)
        self.assertIn((DOWN,), told)

    def test_each_wanted_cell_counts(self):
        """The ask's own wants are not enough."""
        body = when(same(A, 9), call(0, 3), when(same(A, 3), call(0, 5), gain(1)))
        told = self.told(one_of(body), at(0, 9))
        self.assertNotIn((UP,), told)
        self.assertNotIn((DOWN,), told)
        self.assertEqual(self.singles(one_of(body), at(0, 3)), [DOWN, WIDE])

    def test_each_want_counts(self):
        body = when(same(A, 5), choose(call(0, 3), call(0, 6), call(0, 4)), gain(1))
        told = self.told(one_of(body), at(0, 5))
        self.assertNotIn((UP,), told)
        self.assertNotIn((DOWN,), told)

    def test_not_alike(self):
        body = when(same(A, 5), call(0, 4, B), when(same(A, 4), call(0, 3, A), gain(1)))
        told = self.told(one_of(body, 2), at(0, 5, 4))
        self.assertIn((UP,), told)
        self.assertNotIn((UP1,), told)
        self.assertIn((UP1, UP), told)

    def test_by_the_given(self):
        program = program_of((("line", "row"),), (("fa", (num(9),), when(same(A, 5), call(0, ("at", "line", num(0))), gain(1))),))
        self.assertIn((UP,), self.told(program, at(0, 5), {"line": [4]}))
        self.assertNotIn((UP,), self.told(program, at(0, 5), {"line": [6]}))
        self.assertIn((DOWN,), self.told(program, at(0, 5), {"line": [6]}))
        given = given_of(program, {"line": [4]})
        self.assertTrue(is_right(program, given, at(0, 5), (UP,)))
        given["line"][0] = 6
        self.assertFalse(is_right(program, given, at(0, 5), (UP,)))

    def test_where_there_is_a_ring_none_is(self):
        for body in (call(0, A), choose(gain(1), call(0, A)), call(0, ("rest", plus(A, 1), num(5))),
                     when(same(A, 3), call(0, 3), call(0, less(A, 1)))):
            self.assertEqual(self.told(one_of(body), at(0, 6)), [])
        program = program_of((), (("fa", (num(9),), call(1, A)), ("fb", (num(9),), call(0, A))))
        self.assertEqual(self.told(program, at(1, 6)), [])

    def test_faults_are_not_asked(self):
        for bad, fault in ENDING:
            self.assertEqual(self.told(one_of(bad), at(0, 5)), rules())
            self.assertIn((UP,), self.told(one_of(when(below(A, 3), bad, both(call(0, less(A, 1)), bad))), at(0, 5)))

    def test_too_great(self):
        chain = lambda end: one_of(when(same(A, 0), end, call(0, less(A, 1))))
        for end in (gain(1), call(0, 0)):
            for n in (200, 201, 300):
                with self.assertRaises(TooGreat):
                    right_rules(chain(end), {}, at(0, n))
                for rule in ((), (UP,), (UP, DOWN1)):
                    with self.assertRaises(TooGreat):
                        is_right(chain(end), {}, at(0, n), rule)
        self.assertIs(is_right(chain(gain(1)), {}, at(0, 199), (UP,)), True)
        self.assertIs(is_right(chain(gain(1)), {}, at(0, 199), (DOWN,)), False)
        self.assertIn((UP,), right_rules(chain(gain(1)), {}, at(0, 199)))
        self.assertEqual(right_rules(chain(call(0, 0)), {}, at(0, 199)), [])

    def test_the_askers_own(self):
        program = one_of(when(same(A, 0), gain(1), call(0, half(A))))
        told = right_rules(program, {}, at(0, 9))
        kept = list(told)
        told.clear()
        self.assertEqual(right_rules(program, {}, at(0, 9)), kept)


if __name__ == "__main__":
    unittest.main()
