"""Point 13: a cell's worth by a word and the worths of its wants."""

import copy
import unittest

from roomtables.givens import given_of
from roomtables.programs import program_of
from roomtables.readings import cell_worth
from roomtables.words import WORDS

A, B = ("own", 0), ("own", 1)
NONE = ("none",)
NOTHING = {"least": None, "greatest": None, "ways": 0, "sum": 0, "leasts": None, "greatests": None}
WHOLE = {"least": 0, "greatest": 0, "ways": 1, "sum": 1, "leasts": (0, 1), "greatests": (0, 1)}
EDGE = 10 ** 400 - 1
GREAT = ("gain", ("times", ("times", ("num", 10 ** 29), ("num", 10 ** 29)), ("num", 1000)))
NOUGHT = ("gain", ("rest", ("num", 1), ("num", 0)))
PLACE = ("gain", ("full", ("num", 13)))
WIDE = ("each", ("num", 0), ("num", 16), NONE)
BEYOND = ("call", 0, (("num", 21),))
ENDING = ((GREAT, "great"), (NOUGHT, "nought"), (PLACE, "place"), (WIDE, "wide"), (BEYOND, "beyond"))
YES = ("same", ("num", 1), ("num", 1))


def num(n):
    return ("num", n)


def gain(n):
    return ("gain", num(n) if isinstance(n, int) else n)


def fa(one):
    return ("call", 0, (num(one) if isinstance(one, int) else one,))


def choose(*bodies):
    return ("choose", bodies)


def both(*bodies):
    """The bodies, put together from the left."""
    told = bodies[0]
    for body in bodies[1:]:
        told = ("both", told, body)
    return told


class Worths(unittest.TestCase):
    def told(self, body, word, known=None):
        """The worth of a cell with this body; known is by the arg of the called cell."""
        program = program_of((("line", "row"),), (("fa", (num(20),), body),))
        given = given_of(program, {"line": [3, 0, 5]})
        cells = {(0, (arg,)): worth for arg, worth in (known or {}).items()}
        kept = copy.deepcopy((given, cells))
        told = cell_worth(program, given, (0, (5,)), word, cells)
        self.assertEqual((given, cells), kept)
        return told

    def same(self, body, word, due, known=None):
        told = self.told(body, word, known)
        self.assertEqual(told, due, (body, word))
        self.assertIs(type(told), type(due))

    def by_words(self, body, least, greatest, ways, total, leasts, greatests, known=None):
        """The worths by the six words; what is known is by the word then."""
        for word, due in zip(WORDS, (least, greatest, ways, total, leasts, greatests)):
            one = {arg: worths[WORDS.index(word)] for arg, worths in (known or {}).items()}
            self.same(body, word, due, one)


class Words(Worths):
    def test_gain(self):
        self.by_words(gain(7), 7, 7, 1, 7, (7, 1), (7, 1))
        self.by_words(gain(-7), -7, -7, 1, -7, (-7, 1), (-7, 1))
        self.by_words(gain(0), 0, 0, 1, 0, (0, 1), (0, 1))
        self.by_words(gain(("plus", A, ("at", "line", num(2)))), 10, 10, 1, 10, (10, 1), (10, 1))

    def test_none(self):
        for word in WORDS:
            self.same(NONE, word, NOTHING[word])

    def test_call(self):
        known = {3: (4, 5, 6, 7, (8, 2), (9, 3))}
        self.by_words(fa(3), 4, 5, 6, 7, (8, 2), (9, 3), known)
        for word in WORDS:
            self.same(fa(3), word, NOTHING[word], {3: NOTHING[word]})

    def test_both(self):
        self.by_words(("both", gain(3), gain(4)), 7, 7, 1, 12, (7, 1), (7, 1))
        known = {1: (3, 3, 2, 3, (3, 2), (3, 2)), 2: (5, 5, 4, 5, (5, 4), (5, 4))}
        self.by_words(("both", fa(1), fa(2)), 8, 8, 8, 15, (8, 8), (8, 8), known)
        for word in WORDS:
            for body in (("both", NONE, gain(3)), ("both", gain(3), NONE), ("both", NONE, NONE)):
                self.same(body, word, NOTHING[word])

    def test_choose(self):
        self.by_words(choose(gain(3)), 3, 3, 1, 3, (3, 1), (3, 1))
        self.by_words(choose(gain(3), gain(4)), 3, 4, 2, 7, (3, 1), (4, 1))
        self.by_words(choose(gain(4), gain(3), gain(4), gain(3)), 3, 4, 4, 14, (3, 2), (4, 2))
        self.by_words(choose(NONE, gain(4)), 4, 4, 1, 4, (4, 1), (4, 1))
        self.by_words(choose(gain(4), NONE), 4, 4, 1, 4, (4, 1), (4, 1))
        known = {1: (3, 3, 2, 3, (3, 2), (3, 2)), 2: (3, 3, 4, 5, (3, 4), (3, 4))}
        self.by_words(choose(fa(1), fa(2), fa(1)), 3, 3, 8, 11, (3, 8), (3, 8), known)
        for word in WORDS:
            self.same(choose(NONE), word, NOTHING[word])
            self.same(choose(NONE, NONE), word, NOTHING[word])

    def test_each(self):
        self.by_words(("each", num(2), num(4), gain(B)), 2, 4, 3, 9, (2, 1), (4, 1))
        self.by_words(("each", num(2), num(4), gain(7)), 7, 7, 3, 21, (7, 3), (7, 3))
        self.by_words(("each", num(-1), num(1), gain(("times", B, B))), 0, 1, 3, 2, (0, 1), (1, 2))
        self.by_words(("each", num(3), num(3), gain(B)), 3, 3, 1, 3, (3, 1), (3, 1))
        for word in WORDS:
            self.same(("each", num(2), num(1), gain(B)), word, NOTHING[word])
            self.same(("each", num(2), num(4), NONE), word, NOTHING[word])

    def test_all(self):
        self.by_words(("all", num(2), num(4), gain(B)), 9, 9, 1, 24, (9, 1), (9, 1))
        self.by_words(("all", num(3), num(3), gain(B)), 3, 3, 1, 3, (3, 1), (3, 1))
        self.by_words(("all", num(1), num(3), choose(gain(1), gain(2))), 3, 6, 8, 27, (3, 1), (6, 1))
        for word in WORDS:
            self.same(("all", num(2), num(1), NONE), word, WHOLE[word])
            self.same(("all", num(2), num(4), NONE), word, NOTHING[word])
            self.same(("all", num(0), num(2), ("if", ("same", B, num(1)), NONE, gain(1))), word, NOTHING[word])

    def test_if(self):
        body = ("if", ("below", A, num(6)), gain(1), gain(2))
        self.by_words(body, 1, 1, 1, 1, (1, 1), (1, 1))
        body = ("if", ("below", A, num(5)), gain(1), gain(2))
        self.by_words(body, 2, 2, 1, 2, (2, 1), (2, 1))

    def test_turns_within_turns(self):
        body = ("each", num(1), num(2), ("all", num(1), num(2), gain(("plus", B, ("own", 2)))))
        self.by_words(body, 5, 7, 2, 6 + 12, (5, 1), (7, 1))
        body = ("all", num(1), num(2), ("each", num(1), num(2), gain(("plus", B, ("own", 2)))))
        self.by_words(body, 5, 7, 4, 5 * 7, (5, 1), (7, 1))

    def test_mixed(self):
        known = {4: (6, 8, 3, 10, (6, 2), (8, 3)), 3: (None, None, 0, 0, None, None)}
        body = ("both", gain(2), choose(fa(4), fa(3), gain(6)))
        self.by_words(body, 8, 10, 4, 32, (8, 3), (10, 3), known)


class Faults(Worths):
    def test_that_ends_the_reading(self):
        for word in WORDS:
            for bad, fault in ENDING:
                for body in (bad, both(gain(1), bad), both(bad, gain(1)), both(NONE, bad), choose(gain(1), bad, gain(2)),
                             ("each", num(0), num(2), bad), ("all", num(0), num(2), both(NONE, bad)), ("if", YES, bad, NONE)):
                    self.same(body, word, fault)

    def test_of_a_call_where_it_stands(self):
        for word in WORDS:
            one = WHOLE[word]
            for fault in ("place", "nought", "great", "wide", "beyond"):
                known = {1: fault, 2: one}
                for body in (fa(1), both(fa(1), fa(2)), both(fa(2), fa(1)), both(NONE, fa(1)), choose(fa(2), fa(1)),
                             choose(fa(1), fa(2)), ("each", num(1), num(2), fa(B)), ("all", num(1), num(2), fa(B)),
                             ("all", num(1), num(1), both(NONE, fa(B))), ("if", YES, fa(1), NONE)):
                    self.same(body, word, fault, known)
                self.same(("if", YES, fa(2), fa(1)), word, one, known)

    def test_an_earlier_calls_goes_ahead_of_the_end(self):
        for word in WORDS:
            for bad, fault in ENDING:
                for other in ("place", "nought", "great", "wide", "beyond"):
                    self.same(both(fa(1), bad), word, other, {1: other})
                    self.same(choose(gain(1), fa(1), bad), word, other, {1: other})
                    self.same(both(bad, fa(1)), word, fault, {1: other})
                    self.same(both(fa(2), bad, fa(1)), word, fault, {1: other, 2: WHOLE[word]})

    def test_the_first_of_two_calls(self):
        for word in WORDS:
            known = {1: "wide", 2: "place", 3: WHOLE[word]}
            for first, second, due in ((1, 2, "wide"), (2, 1, "place")):
                self.same(both(fa(first), fa(second)), word, due, known)
                self.same(both(fa(3), fa(first), fa(second)), word, due, known)
                self.same(choose(fa(first), fa(second)), word, due, known)
                self.same(choose(fa(3), fa(first), fa(second)), word, due, known)
            self.same(("each", num(1), num(2), fa(B)), word, "wide", known)
            self.same(("all", num(1), num(2), fa(("less", num(3), B))), word, "place", known)


def vast(word):
    """A worth that is great when it is put together with itself, by both and by either, where either can be so."""
    return (EDGE, EDGE) if word in ("leasts", "greatests") else EDGE


class Great(Worths):
    def test_behind_the_second_one(self):
        for word in WORDS:
            known = {1: vast(word), 2: vast(word), 3: "wide"}
            self.same(both(fa(1), fa(2)), word, "great", known)
            self.same(both(fa(1), fa(2), fa(3)), word, "great", known)
            self.same(("both", fa(1), both(fa(3), fa(2))), word, "wide", known)
            self.same(("both", fa(1), both(fa(2), fa(3))), word, "wide", known)
            self.same(both(fa(1), fa(3)), word, "wide", known)
            self.same(both(fa(3), fa(1), fa(2)), word, "wide", known)
            for bad, fault in ENDING:
                self.same(both(fa(1), bad), word, fault, known)
                self.same(both(fa(1), fa(2), bad), word, "great", known)
                self.same(("both", fa(1), ("both", bad, fa(2))), word, fault, known)

    def test_in_choose_and_each(self):
        for word in ("ways", "sum", "leasts", "greatests"):
            known = {1: vast(word), 2: vast(word), 3: "wide"}
            self.same(choose(fa(1), fa(2)), word, "great", known)
            self.same(choose(fa(1), fa(2), fa(3)), word, "great", known)
            self.same(choose(fa(1), fa(3), fa(2)), word, "wide", known)
            self.same(("each", num(1), num(3), fa(B)), word, "great", known)
            self.same(("each", num(1), num(1), fa(B)), word, vast(word), known)
            self.same(both(choose(fa(1), fa(2)), NOUGHT), word, "great", known)
            self.same(choose(fa(1), NOUGHT), word, "nought", known)
        for word in ("least", "greatest"):
            known = {1: vast(word), 2: vast(word), 3: "wide"}
            self.same(choose(fa(1), fa(2)), word, EDGE, known)
            self.same(choose(fa(1), fa(2), fa(3)), word, "wide", known)
            self.same(("each", num(1), num(2), fa(B)), word, EDGE, known)

    def test_in_all(self):
        for word in WORDS:
            known = {1: vast(word), 2: vast(word), 3: "wide"}
            self.same(("all", num(1), num(1), fa(B)), word, vast(word), known)
            self.same(("all", num(1), num(2), fa(B)), word, "great", known)
            self.same(("all", num(1), num(3), fa(B)), word, "great", known)
            self.same(("all", num(0), num(2), fa(("less", num(3), B))), word, "wide", known)

    def test_put_together_from_the_left(self):
        """What is great halfway is great, though the whole would not be."""
        self.same(choose(gain(1), fa(1), gain(-5)), "sum", "great", {1: EDGE})
        self.same(choose(gain(-5), fa(1), gain(1)), "sum", EDGE - 4, {1: EDGE})
        self.same(choose(fa(1), fa(2), fa(1)), "sum", "great", {1: EDGE, 2: 1})
        self.same(("each", num(1), num(3), fa(B)), "sum", "great", {1: EDGE, 2: 1, 3: -1})
        self.same(("each", num(1), num(3), fa(B)), "sum", EDGE, {1: EDGE, 2: -1, 3: 1})
        self.same(("all", num(1), num(3), fa(B)), "least", "great", {1: EDGE, 2: 1, 3: -1})
        self.same(("all", num(1), num(3), fa(B)), "least", EDGE, {1: EDGE, 2: -1, 3: 1})
        self.same(both(fa(1), fa(2), gain(0)), "sum", "great", {1: EDGE, 2: 2})
        self.same(("both", fa(1), both(fa(2), gain(0))), "sum", 0, {1: EDGE, 2: 2})
        self.same(("all", num(1), num(3), fa(B)), "sum", "great", {1: EDGE, 2: 2, 3: 0})
        self.same(("all", num(1), num(3), fa(B)), "sum", 0, {1: EDGE, 2: 0, 3: 2})
        self.same(("each", num(1), num(3), both(fa(B), gain(1))), "sum", "great", {1: EDGE, 2: 1, 3: -1})

    def test_nothing_takes_a_great_one_in(self):
        for word in ("least", "greatest", "leasts", "greatests"):
            self.same(both(fa(1), NONE), word, None, {1: vast(word)})
            self.same(both(NONE, fa(1)), word, None, {1: vast(word)})
            self.same(both(fa(1), NONE, fa(1)), word, None, {1: vast(word)})

    def test_at_the_edge(self):
        half = 10 ** 200
        self.same(both(fa(1), fa(2)), "ways", half * (half - 1), {1: half, 2: half - 1})
        self.same(both(fa(1), fa(2)), "ways", "great", {1: half, 2: half})
        self.same(both(fa(1), fa(2)), "sum", "great", {1: -half, 2: half})
        self.same(both(fa(1), gain(1)), "least", EDGE, {1: EDGE - 1})
        self.same(both(fa(1), gain(1)), "least", "great", {1: EDGE})
        self.same(both(fa(1), gain(-1)), "greatest", "great", {1: -EDGE})
        self.same(both(fa(1), fa(2)), "leasts", "great", {1: (1, half), 2: (1, half)})
        self.same(both(fa(1), fa(2)), "greatests", (2, half * (half - 1)), {1: (1, half), 2: (1, half - 1)})


class Known(Worths):
    def test_more_than_the_wants(self):
        program = program_of((), (("fa", (num(20),), ("both", fa(3), gain(2))),))
        given = given_of(program, {})
        known = {(0, (3,)): 5}
        more = {
            (0, (3,)): 5, (0, (4,)): 9, (0, (5,)): "place", (0, (99,)): 1, (7, (1, 2)): "great", (0, (True, 3)): 4,
            None: 1, "x": 2, 3: 4, (): 5, ((),): 6, (0,): 7, frozenset(): 8, 0.5: 9,
        }
        for one in (known, more, dict(reversed(list(more.items())))):
            kept = dict(one)
            self.assertEqual(cell_worth(program, given, (0, (5,)), "least", one), 7)
            self.assertEqual(cell_worth(program, given, (0, (5,)), "ways", one), 5)
            self.assertEqual(one, kept)

    def test_none_are_wanted(self):
        self.same(gain(4), "least", 4, {})

    def test_only_what_is_read_is_wanted(self):
        for word in WORDS:
            self.same(both(fa(1), NOUGHT, fa(2)), word, "nought", {1: WHOLE[word]})
            self.same(("if", YES, fa(1), fa(2)), word, WHOLE[word], {1: WHOLE[word]})


if __name__ == "__main__":
    unittest.main()
