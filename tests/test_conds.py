"""Point 6: whether conditions hold."""

import copy
import unittest

from roomtables.conds import holds

A = 123456789012345678901234567890
GIVEN = {"count": 7, "line": [4, 5], "word": "ab", "knots": (0, 0)}
OWN = [3, -2]


def num(n):
    return ("num", n)


def told(cond):
    return holds(cond, GIVEN, OWN)


YES = ("same", num(1), num(1))
NO = ("same", num(1), num(2))
PLACE = ("below", ("full", num(13)), num(0))
NOUGHT = ("same", num(0), ("rest", num(1), num(0)))
GREAT = ("below", ("times", ("times", num(10 ** 29), num(10 ** 29)), num(1000)), num(1))
SET = ("has", num(-1), num(0))
FAULTS = ((PLACE, "place"), (NOUGHT, "nought"), (GREAT, "great"), (SET, "place"))


class OfSums(unittest.TestCase):
    def test_below_and_same(self):
        for s, t in ((1, 2), (2, 1), (2, 2), (-1, 0), (0, -1), (-2, -1), (A, A), (A, A + 1), (A + 1, A), (-A, A)):
            self.assertIs(told(("below", num(s), num(t))), s < t, (s, t))
            self.assertIs(told(("same", num(s), num(t))), s == t, (s, t))

    def test_has(self):
        for s in (0, 1, 2, 5, 4096, 8191, 2 ** 13, A):
            for t in range(13):
                self.assertIs(told(("has", num(s), num(t))), (s // 2 ** t) % 2 == 1, (s, t))

    def test_has_place(self):
        for s, t in ((0, -1), (0, 13), (8191, 13), (-1, 0), (-1, 12), (-A, 1), (A, A), (A, -A)):
            self.assertEqual(told(("has", num(s), num(t))), "place", (s, t))
        for s, t in ((0, 0), (0, 12), (A, 0), (A, 12)):
            self.assertIsInstance(told(("has", num(s), num(t))), bool, (s, t))

    def test_own_numbers_and_needs(self):
        self.assertIs(told(("same", ("own", 0), num(3))), True)
        self.assertIs(told(("below", ("own", 0), ("own", 1))), False)
        self.assertIs(told(("same", ("need", "count"), num(7))), True)
        self.assertIs(told(("below", ("at", "line", num(0)), ("at", "line", num(1)))), True)
        self.assertIs(told(("same", ("size", "knots"), num(3))), True)


class OfConditions(unittest.TestCase):
    def test_words(self):
        self.assertIs(told(YES), True)
        self.assertIs(told(NO), False)
        self.assertIs(told(("not", YES)), False)
        self.assertIs(told(("not", NO)), True)
        for c, is_c in ((YES, True), (NO, False)):
            for d, is_d in ((YES, True), (NO, False)):
                self.assertIs(told(("and", c, d)), is_c and is_d)
                self.assertIs(told(("or", c, d)), is_c or is_d)

    def test_truths_themselves_are_told(self):
        for cond in (YES, NO, ("has", num(5), num(0)), ("has", num(5), num(1)), ("below", num(0), num(1)),
                     ("and", ("has", num(5), num(0)), YES), ("or", NO, ("has", num(4), num(2)))):
            self.assertIs(type(told(cond)), bool, cond)

    def test_sixty_deep(self):
        cond = YES
        for _ in range(58):
            cond = ("not", cond)
        self.assertIs(told(cond), True)
        self.assertIs(told(("not", cond)), False)
        cond = YES
        for at in range(58):
            cond = ("and", cond, YES) if at % 2 else ("or", NO, cond)
        self.assertIs(told(cond), True)
        one = num(0)
        for _ in range(58):
            one = ("plus", one, num(1))
        self.assertIs(told(("same", one, num(58))), True)


class Faults(unittest.TestCase):
    def test_all_parts_are_reckoned(self):
        for bad, fault in FAULTS:
            self.assertEqual(told(bad), fault)
            self.assertEqual(told(("not", bad)), fault)
            for word in ("and", "or"):
                for good in (YES, NO):
                    self.assertEqual(told((word, good, bad)), fault, (word, good))
                    self.assertEqual(told((word, bad, good)), fault, (word, good))

    def test_the_first_fault_met_from_the_left(self):
        for bad, fault in FAULTS:
            for other, behind in FAULTS:
                for word in ("and", "or"):
                    self.assertEqual(told((word, bad, other)), fault)
                    self.assertEqual(told((word, YES, (word, bad, other))), fault)
                    self.assertEqual(told((word, ("not", (word, NO, bad)), other)), fault)

    def test_faults_of_sums_from_the_left(self):
        place, nought = ("full", num(13)), ("rest", num(1), num(0))
        for word in ("below", "same", "has"):
            self.assertEqual(told((word, place, nought)), "place")
            self.assertEqual(told((word, nought, place)), "nought")
            self.assertEqual(told((word, num(1), nought)), "nought")
            self.assertEqual(told((word, nought, num(1))), "nought")
        self.assertEqual(told(("has", num(-1), nought)), "nought")
        self.assertEqual(told(("has", nought, num(13))), "nought")

    def test_nothing_is_changed(self):
        given, own, cond = copy.deepcopy(GIVEN), list(OWN), ("or", YES, ("and", NO, ("below", ("own", 0), ("size", "line"))))
        kept = copy.deepcopy(cond)
        holds(cond, given, own)
        self.assertEqual((given, own, cond), (GIVEN, OWN, kept))


if __name__ == "__main__":
    unittest.main()
