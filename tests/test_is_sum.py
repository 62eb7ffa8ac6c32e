"""Points 5 and 6: which things are sums, and which are conditions."""

import unittest

from odd_things import ODD, nested
from roomtables.conds import is_cond
from roomtables.sums import is_sum

NEEDS = (("count", "number"), ("line", "row"), ("word", "text"), ("knots", "tree"))
N = ("num", 3)
O = ("own", 1)

SUMS = [
    ("num", 0), ("num", -1), ("num", 12), ("num", 10 ** 29), ("num", -10 ** 29),
    ("own", 0), ("own", 1), ("need", "count"),
    ("size", "line"), ("size", "word"), ("size", "knots"),
    ("at", "line", N), ("at", "word", O), ("kids", "knots", N), ("kid", "knots", N, O),
    ("full", N), ("with", N, O), ("without", N, O), ("many", N),
    ("plus", N, O), ("less", N, O), ("times", N, O), ("half", N), ("rest", N, O), ("lesser", N, O), ("greater", N, O),
]
CONDS = [
    ("below", N, O), ("same", N, O), ("has", N, O),
    ("not", ("same", N, O)), ("and", ("same", N, O), ("has", N, O)), ("or", ("below", N, O), ("not", ("has", O, N))),
]


def sum_of(thing, many=2):
    return is_sum(thing, NEEDS, many)


def cond_of(thing, many=2):
    return is_cond(thing, NEEDS, many)


def spoilt(thing, bad):
    """The thing, with each of its parts but the word in turn made a bad one."""
    return [thing[:at] + (bad,) + thing[at + 1:] for at in range(1, len(thing))]


class Sums(unittest.TestCase):
    def test_right_ones(self):
        for one in SUMS:
            self.assertIs(sum_of(one), True, one)

    def test_right_ones_within_others(self):
        for one in SUMS:
            for outer in (("half", one), ("plus", one, N), ("plus", N, one), ("at", "line", one), ("kids", "knots", one),
                          ("kid", "knots", one, N), ("kid", "knots", N, one), ("many", one), ("full", one)):
                self.assertIs(sum_of(outer), True, outer)

    def test_odd_things(self):
        for thing in ODD:
            self.assertIs(sum_of(thing), False, repr(thing)[:80])

    def test_odd_things_in_each_place(self):
        for one in SUMS:
            for bad in ODD:
                for thing in spoilt(one, bad):
                    if one[0] == "num" and isinstance(bad, int) and not isinstance(bad, bool):
                        continue
                    if one[0] == "own" and bad in (0, 1) and not isinstance(bad, bool):
                        continue
                    self.assertIs(sum_of(thing), False, repr(thing)[:80])

    def test_a_part_more_or_less(self):
        for one in SUMS:
            self.assertIs(sum_of(one[:-1]), False, one)
            for more in (N, "line", 1, None):
                self.assertIs(sum_of(one + (more,)), False, one)
        self.assertIs(sum_of(()), False)

    def test_another_word(self):
        for one in SUMS:
            for word in ("", "sum", "nums", "Plus", "min", "none", "gain", "call", "below", "not", b"num", 0, None, ("num",)):
                self.assertIs(sum_of((word,) + one[1:]), False, (word, one))

    def test_a_list_for_the_tuple(self):
        for one in SUMS:
            self.assertIs(sum_of(list(one)), False, one)
            self.assertIs(sum_of(("half", list(one))), False, one)
            self.assertIs(sum_of(("plus", N, list(one))), False, one)

    def test_truths_for_numbers(self):
        for truth in (True, False):
            self.assertIs(sum_of(("num", truth)), False)
            self.assertIs(sum_of(("own", truth)), False)
            self.assertIs(sum_of(("plus", N, truth)), False)

    def test_own_numbers(self):
        for many in range(5):
            for k in range(-3, 8):
                self.assertIs(sum_of(("own", k), many), 0 <= k < many, (k, many))
                self.assertIs(sum_of(("plus", N, ("half", ("own", k))), many), 0 <= k < many, (k, many))

    def test_needs_by_their_kinds(self):
        right = {
            "need": ["count"], "size": ["line", "word", "knots"], "at": ["line", "word"],
            "kids": ["knots"], "kid": ["knots"],
        }
        behind = {"need": (), "size": (), "at": (N,), "kids": (N,), "kid": (N, N)}
        for word in right:
            for name in ("count", "line", "word", "knots", "other", "", "Line", "number", "row"):
                thing = (word, name) + behind[word]
                self.assertIs(sum_of(thing), name in right[word], thing)
                self.assertIs(is_sum(thing, (), 2), False, thing)
            for name in (None, 1, True, ["line"], ("line",), {}, b"line"):
                self.assertIs(sum_of((word, name) + behind[word]), False, (word, name))

    def test_conditions_are_no_sums(self):
        for cond in CONDS:
            self.assertIs(sum_of(cond), False, cond)
            self.assertIs(sum_of(("half", cond)), False, cond)
            self.assertIs(sum_of(("plus", N, cond)), False, cond)
            self.assertIs(sum_of(("at", "line", cond)), False, cond)

    def test_bodies_are_no_sums(self):
        for thing in (("gain", N), ("none",), ("call", 0, (N,)), ("both", ("none",), ("none",)), ("choose", (N,))):
            self.assertIs(sum_of(thing), False, thing)

    def test_sixty_deep(self):
        one, other = N, ("num", None)
        for _ in range(58):
            one, other = ("plus", N, one), ("plus", N, other)
        self.assertIs(sum_of(one), True)
        self.assertIs(sum_of(other), False)
        self.assertIs(sum_of(("half", nested(50, N))), False)

    def test_a_fault_in_the_worth_is_none_of_the_form(self):
        for one in (("rest", N, ("num", 0)), ("full", ("num", 13)), ("at", "line", ("num", -1)), ("many", ("num", -1))):
            self.assertIs(sum_of(one), True, one)


class Conds(unittest.TestCase):
    def test_right_ones(self):
        for cond in CONDS:
            self.assertIs(cond_of(cond), True, cond)
            for outer in (("not", cond), ("and", cond, CONDS[0]), ("and", CONDS[0], cond), ("or", cond, CONDS[0]),
                          ("or", CONDS[0], cond)):
                self.assertIs(cond_of(outer), True, outer)

    def test_all_sums_in_conditions(self):
        for one in SUMS:
            for word in ("below", "same", "has"):
                self.assertIs(cond_of((word, one, N)), True, one)
                self.assertIs(cond_of((word, N, one)), True, one)

    def test_odd_things(self):
        for thing in ODD:
            self.assertIs(cond_of(thing), False, repr(thing)[:80])

    def test_odd_things_in_each_place(self):
        for cond in CONDS:
            for bad in ODD:
                for thing in spoilt(cond, bad):
                    self.assertIs(cond_of(thing), False, repr(thing)[:80])

    def test_a_part_more_or_less(self):
        for cond in CONDS:
            self.assertIs(cond_of(cond[:-1]), False, cond)
            for more in (N, CONDS[0], None):
                self.assertIs(cond_of(cond + (more,)), False, cond)

    def test_another_word(self):
        for cond in CONDS:
            for word in ("", "Not", "if", "plus", "above", "num", "gain", b"not", 0, None):
                self.assertIs(cond_of((word,) + cond[1:]), False, (word, cond))

    def test_a_list_for_the_tuple(self):
        for cond in CONDS:
            self.assertIs(cond_of(list(cond)), False, cond)
            self.assertIs(cond_of(("not", list(cond))), False, cond)
        self.assertIs(cond_of(("same", list(N), N)), False)

    def test_sums_are_no_conditions(self):
        for one in SUMS:
            self.assertIs(cond_of(one), False, one)
            self.assertIs(cond_of(("not", one)), False, one)
            for word in ("and", "or"):
                self.assertIs(cond_of((word, one, CONDS[0])), False, one)
                self.assertIs(cond_of((word, CONDS[0], one)), False, one)

    def test_conditions_for_sums(self):
        for cond in CONDS:
            for word in ("below", "same", "has"):
                self.assertIs(cond_of((word, cond, N)), False, cond)
                self.assertIs(cond_of((word, N, cond)), False, cond)

    def test_truths_are_no_conditions(self):
        for truth in (True, False):
            self.assertIs(cond_of(truth), False)
            self.assertIs(cond_of(("not", truth)), False)
            self.assertIs(cond_of(("same", truth, N)), False)
            self.assertIs(cond_of(("same", ("num", truth), N)), False)

    def test_own_numbers_and_needs(self):
        self.assertIs(cond_of(("not", ("same", ("own", 2), N)), 3), True)
        self.assertIs(cond_of(("not", ("same", ("own", 2), N)), 2), False)
        self.assertIs(cond_of(("not", ("same", N, ("own", -1))), 2), False)
        self.assertIs(cond_of(("below", ("need", "count"), ("size", "word"))), True)
        self.assertIs(is_cond(("below", ("need", "count"), N), (), 2), False)
        self.assertIs(cond_of(("below", ("need", "line"), N)), False)

    def test_sixty_deep(self):
        cond, other = CONDS[0], ("below", N, None)
        for _ in range(58):
            cond, other = ("not", cond), ("not", other)
        self.assertIs(cond_of(cond), True)
        self.assertIs(cond_of(other), False)


if __name__ == "__main__":
    unittest.main()
