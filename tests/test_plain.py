"""Point 14: the plain runner."""

import copy
import unittest

from roomtables.errors import TooLong
from roomtables.givens import given_of
from roomtables.plain import plain
from roomtables.programs import program_of
from roomtables.words import WORDS
from writing import A, B, ENDING, NO, NONE, NOUGHT, PLACE, YES
from writing import at, below, both, call, choose, each, every, gain, half, less, num, plus, same, when

# Reads just as many cells as its number tells, from 1 on, at most thirteen within one another.
READER = when(below(A, 3), when(same(A, 2), call(0, 1), gain(1)), both(call(0, half(less(A, 1))), call(0, half(A))))

# Reads one cell more than its number tells, each within the one before.
CHAIN = when(same(A, 0), gain(7), call(1, less(A, 1)))


def made(*bodies):
    """A program of these bodies, the first one READER, the second one CHAIN, all with numbers up to 5000."""
    names = ("reader", "chain", "fa", "fb")
    return program_of((), tuple((name, (num(5000),), body) for name, body in zip(names, (READER, CHAIN, *bodies))))


class Plain(unittest.TestCase):
    def told(self, program, ask, word="least", things=None):
        given = given_of(program, things or {})
        kept = copy.deepcopy(given)
        told = plain(program, given, ask, word)
        self.assertEqual(given, kept)
        return told

    def same(self, bodies, ask, due, words=WORDS):
        for word in words:
            self.assertEqual(self.told(made(*bodies), ask, word), due, word)

    def too_long(self, bodies, ask):
        for word in WORDS:
            with self.assertRaises(TooLong):
                self.told(made(*bodies), ask, word)


class ByWords(Plain):
    def by_words(self, program, ask, *due, **things):
        for word, one in zip(WORDS, due):
            told = self.told(program, ask, word, things)
            self.assertEqual(told, one, word)
            self.assertIs(type(told), type(one))

    def test_climbing(self):
        step = ("at", "costs", A)
        body = both(gain(step), when(below(A, 2), gain(0), choose(call(0, less(A, 1)), call(0, less(A, 2)))))
        program = program_of((("costs", "row"),), (("climb", (less(("size", "costs"), 1),), body),))
        # 10; 15; 20 + 10 or 15; 5 + 15 or what 20 has.
        self.by_words(program, at(0, 2), 30, 35, 2, 0, (30, 1), (35, 1), costs=[10, 15, 20])
        self.by_words(program, at(0, 3), 20, 40, 3, 0, (20, 1), (40, 1), costs=[10, 15, 20, 5])
        self.by_words(program, at(0, 3), 3, 4, 3, 0, (3, 1), (4, 2), costs=[1, 1, 1, 2])

    def test_ways(self):
        program = program_of((), (("fib", (num(15),), when(below(A, 2), gain(2), choose(call(0, less(A, 1)), call(0, less(A, 2))))),))
        self.by_words(program, at(0, 10), 2, 2, 89, 178, (2, 89), (2, 89))
        program = program_of((), (("twice", (num(9),), when(below(A, 1), gain(3), both(call(0, less(A, 1)), call(0, less(A, 1))))),))
        self.by_words(program, at(0, 3), 24, 24, 1, 3 ** 8, (24, 1), (24, 1))

    def test_nothing_and_whole(self):
        program = program_of((), (("fa", (num(9),), when(same(A, 0), NONE, both(gain(4), call(0, less(A, 1))))),))
        self.by_words(program, at(0, 5), None, None, 0, 0, None, None)
        program = program_of((), (("fa", (num(9),), every(1, A, both(gain(2), call(0, less(A, B))))),))
        self.by_words(program, at(0, 0), 0, 0, 1, 1, (0, 1), (0, 1))
        self.by_words(program, at(0, 3), 14, 14, 1, 2 ** 7, (14, 1), (14, 1))
        program = program_of((), (("fa", (num(9),), when(same(A, 0), gain(1), each(1, A, both(gain(2), call(0, less(A, B)))))),))
        self.by_words(program, at(0, 3), 3, 7, 4, 18, (3, 1), (7, 1))

    def test_functions_that_call_one_another(self):
        even = when(same(A, 0), gain(1), call(1, less(A, 1)))
        odd = when(same(A, 0), NONE, call(0, less(A, 1)))
        program = program_of((), (("even", (num(19),), even), ("odd", (num(19),), odd)))
        for n in range(20):
            self.assertEqual(self.told(program, at(0, n)), 1 if n % 2 == 0 else None)
            self.assertEqual(self.told(program, at(1, n), "ways"), n % 2)

    def test_the_given(self):
        program = program_of((("count", "number"),), (("fa", (("need", "count"),), gain(plus(A, ("need", "count")))),))
        given = given_of(program, {"count": 5})
        self.assertEqual(plain(program, given, at(0, 3), "least"), 8)
        given["count"] = 6
        self.assertEqual(plain(program, given, at(0, 6), "least"), 12)


class Lengths(Plain):
    def test_three_thousand_cells(self):
        for n in (1, 2, 3, 4, 17, 2999, 3000):
            self.same((), at(0, n), 1, ("ways", "sum"))
        self.too_long((), at(0, 3001))
        self.too_long((), at(0, 3002))
        self.too_long((), at(0, 5000))

    def test_the_asked_one_and_those_beside_one_another(self):
        for one, other in ((1, 2998), (2998, 1), (1500, 1499)):
            self.same((both(call(0, one), call(0, other)),), at(2, 0), 1, ("ways", "sum"))
            self.too_long((both(call(0, one + 1), call(0, other)),), at(2, 0))
            self.too_long((both(call(0, one), call(0, other + 1)),), at(2, 0))
            self.same((choose(call(0, one), call(0, other)),), at(2, 0), 2, ("ways", "sum"))
            self.too_long((choose(call(0, one), call(0, other), call(0, 1)),), at(2, 0))

    def test_the_same_cell_counts_each_time(self):
        self.same((each(1, 16, call(3, A)), every(0, 15, call(0, 11))), at(2, 0), 16, ("ways", "sum"))
        self.too_long((each(1, 16, call(3, A)), every(0, 15, call(0, 12))), at(2, 0))
        self.same((every(1, 1, call(0, 2999)),), at(2, 0), 1, ("ways", "sum"))
        self.too_long((every(1, 1, call(0, 3000)),), at(2, 0))

    def test_twenty_within_one_another(self):
        for n in (0, 1, 18, 19):
            self.same((), at(1, n), 7, ("least", "greatest", "sum"))
        self.too_long((), at(1, 20))
        self.too_long((), at(1, 21))
        self.too_long((), at(1, 5000))

    def test_within_and_beside(self):
        self.same((every(1, 16, call(1, 18)),), at(2, 0), 112, ("least", "greatest"))
        self.too_long((every(1, 16, call(1, 19)),), at(2, 0))
        self.same((each(0, 15, call(1, plus(B, 3))),), at(2, 0), 7, ("least", "greatest"))
        self.too_long((each(0, 15, call(1, plus(B, 4))),), at(2, 0))
        self.same((both(call(1, 18), call(3, 17)), call(1, A)), at(2, 0), 14, ("least", "greatest"))
        self.too_long((both(call(1, 18), call(3, 18)), call(1, A)), at(2, 0))

    def test_refused_and_asked_again(self):
        for _ in range(2):
            self.too_long((), at(0, 3001))
            self.same((), at(0, 3000), 1, ("ways", "sum"))
            self.too_long((), at(1, 20))
            self.same((), at(1, 19), 7, ("least", "greatest"))


class Faults(Plain):
    def test_of_the_asked_cell(self):
        for bad, fault in ENDING:
            self.same((bad,), at(2, 0), fault)
            self.same((both(NONE, bad),), at(2, 0), fault)

    def test_of_a_called_cell(self):
        for bad, fault in ENDING:
            self.same((call(3, 0), bad), at(2, 0), fault)
            self.same((both(call(3, 0), NONE), bad), at(2, 0), fault)
            self.same((choose(call(0, 3), call(3, 0), call(0, 9)), bad), at(2, 0), fault)
            self.same((when(YES, call(0, 3), call(3, 0)), bad), at(2, 0), 1, ("ways", "sum"))
            self.same((when(NO, call(0, 3), call(3, 0)), bad), at(2, 0), fault)

    def test_the_first_one_is_told(self):
        for bad, fault in ENDING:
            for other, behind in ENDING:
                self.same((both(call(3, 0), other), bad), at(2, 0), fault)
                self.same((both(other, call(3, 0)), bad), at(2, 0), behind)
                self.same((choose(call(3, 0), call(3, 1)), when(same(A, 0), bad, other)), at(2, 0), fault)
                self.same((choose(call(3, 1), call(3, 0)), when(same(A, 0), bad, other)), at(2, 0), behind)

    def test_what_stands_behind_is_not_read(self):
        for bad, fault in ENDING:
            for long in (call(0, 5000), call(1, 5000), call(2, A)):
                self.same((both(bad, long),), at(2, 0), fault)
                self.same((both(call(3, 0), long), bad), at(2, 0), fault)
                self.same((choose(call(0, 5), call(3, 0), long), bad), at(2, 0), fault)
                self.same((every(0, 3, choose(call(3, A), long)), bad), at(2, 0), fault)
                self.too_long((both(long, bad),), at(2, 0))
                self.too_long((both(long, call(3, 0)), bad), at(2, 0))

    def test_great_where_two_are_put_together(self):
        # Squared nine times: 10 to the power 512.
        square = when(same(A, 0), gain(10), both(call(3, less(A, 1)), call(3, less(A, 1))))
        for n, due in ((8, 10 ** 256), (9, "great"), (10, "great")):
            self.same((gain(0), square), at(3, n), due, ("sum",))
        self.same((both(call(3, 10), call(0, 5000)), square), at(2, 0), "great", ("sum",))
        self.same((both(call(3, 9), gain(NOUGHT)), square), at(2, 0), "great", ("sum",))
        self.same((both(call(3, 8), gain(NOUGHT)), square), at(2, 0), "nought", ("sum",))
        for word in ("least", "ways", "leasts"):
            with self.assertRaises(TooLong):
                self.told(made(both(call(3, 10), call(0, 5000)), square), at(2, 0), word)

    def test_met_ahead_of_the_three_thousandth(self):
        for bad, fault in ENDING:
            self.same((both(call(0, 2999), bad),), at(2, 0), fault)
            self.too_long((both(call(0, 3000), bad),), at(2, 0))
            self.same((both(call(0, 2998), call(3, 0)), bad), at(2, 0), fault)
            self.too_long((both(call(0, 2999), call(3, 0)), bad), at(2, 0))
            self.same((both(call(0, 2998), both(call(3, 0), call(0, 1))), bad), at(2, 0), fault)

    def test_met_ahead_of_the_twenty_first_within(self):
        chain = lambda bad: when(same(A, 0), bad, call(2, less(A, 1)))
        for bad, fault in ENDING:
            self.same((chain(bad),), at(2, 19), fault)
            self.too_long((chain(bad),), at(2, 20))
            self.same((both(when(same(A, 1), bad, gain(0)), when(same(A, 0), NONE, call(2, less(A, 1)))),), at(2, 20), fault)
            self.too_long((both(when(same(A, 0), bad, gain(0)), when(same(A, 0), NONE, call(2, less(A, 1)))),), at(2, 20))


class Rings(Plain):
    def test_too_long(self):
        self.too_long((call(2, A),), at(2, 0))
        self.too_long((choose(gain(1), call(2, A)),), at(2, 5))
        self.too_long((call(3, A), call(2, A)), at(2, 0))
        self.too_long((when(below(A, 9), call(2, plus(A, 1)), call(2, 0)),), at(2, 3))
        self.too_long((both(NONE, call(2, A)),), at(2, 0))

    def test_the_first_fault_met(self):
        for bad, fault in ENDING:
            self.same((both(bad, call(2, A)),), at(2, 0), fault)
            self.too_long((both(call(2, A), bad),), at(2, 0))
            self.same((call(3, A), both(bad, call(2, A))), at(2, 0), fault)
            # A ring through 0 to 4, a fault at 3 ahead of the call that leads on.
            ring = both(when(same(A, 3), bad, gain(0)), call(2, ("rest", plus(A, 1), num(5))))
            for n in range(5):
                self.same((ring,), at(2, n), fault)
            ring = both(call(2, ("rest", plus(A, 1), num(5))), when(same(A, 3), bad, gain(0)))
            for n in range(5):
                self.too_long((ring,), at(2, n))

    def test_a_ring_that_is_not_come_to(self):
        self.same((when(same(A, 0), gain(4), call(2, A)),), at(2, 0), 4, ("least", "greatest", "sum"))
        self.too_long((when(same(A, 0), gain(4), call(2, A)),), at(2, 1))

    def test_many_ways_around(self):
        self.too_long((each(0, 15, call(2, B)),), at(2, 0))
        self.too_long((when(below(A, 19), choose(call(2, plus(A, 1)), call(2, plus(A, 1))), gain(1)),), at(2, 0))


class Again(Plain):
    def test_the_same_is_told(self):
        program = made(choose(call(0, 9), call(1, 3)), gain(PLACE))
        given = given_of(program, {})
        for ask in (at(2, 0), at(3, 0), at(0, 50), at(1, 7)):
            for word in WORDS:
                first = plain(program, given, ask, word)
                self.assertEqual(plain(program, given, ask, word), first)


if __name__ == "__main__":
    unittest.main()
