"""Point 10: the six ways of reckoning."""

import unittest

from roomtables.words import WORDS, both, either, gain, nothing, whole

EDGE = 10 ** 400 - 1
HUGE = 10 ** 200


class Words(unittest.TestCase):
    def same(self, told, due):
        self.assertEqual(told, due)
        self.assertIs(type(told), type(due))
        if isinstance(due, tuple):
            self.assertEqual([type(one) for one in told], [int, int])


class Plain(Words):
    def test_words(self):
        self.assertEqual(WORDS, ("least", "greatest", "ways", "sum", "leasts", "greatests"))
        self.assertIs(type(WORDS), tuple)

    def test_nothing(self):
        due = {"least": None, "greatest": None, "ways": 0, "sum": 0, "leasts": None, "greatests": None}
        for word in WORDS:
            self.same(nothing(word), due[word])

    def test_whole(self):
        due = {"least": 0, "greatest": 0, "ways": 1, "sum": 1, "leasts": (0, 1), "greatests": (0, 1)}
        for word in WORDS:
            self.same(whole(word), due[word])

    def test_gain(self):
        for number in (0, 1, 2, 7, -7, 10 ** 29, EDGE, -EDGE):
            for word in ("least", "greatest", "sum"):
                self.same(gain(word, number), number)
            self.same(gain("ways", number), 1)
            for word in ("leasts", "greatests"):
                self.same(gain(word, number), (number, 1))


NUMBERS = [(3, 5), (5, 3), (4, 4), (-3, 5), (3, -5), (-5, -3), (0, 7), (7, 0), (0, 0), (10 ** 29, -1), (1, 10 ** 29)]


class Together(Words):
    def test_least_and_greatest(self):
        for one, other in NUMBERS:
            for word in ("least", "greatest"):
                self.same(both(word, one, other), one + other)
            self.same(either("least", one, other), one if one < other else other)
            self.same(either("greatest", one, other), one if one > other else other)

    def test_ways_and_sum(self):
        for one, other in NUMBERS:
            for word in ("ways", "sum"):
                self.same(both(word, one, other), one * other)
                self.same(either(word, one, other), one + other)

    def test_pairs_both(self):
        for word in ("leasts", "greatests"):
            for one, other in NUMBERS:
                self.same(both(word, (one, 2), (other, 3)), (one + other, 6))
            self.same(both(word, (4, 0), (5, 7)), (9, 0))

    def test_pairs_either(self):
        self.same(either("leasts", (3, 2), (5, 7)), (3, 2))
        self.same(either("leasts", (5, 7), (3, 2)), (3, 2))
        self.same(either("leasts", (3, 9), (5, 1)), (3, 9))
        self.same(either("leasts", (-3, 2), (-5, 7)), (-5, 7))
        self.same(either("greatests", (3, 2), (5, 7)), (5, 7))
        self.same(either("greatests", (5, 7), (3, 2)), (5, 7))
        self.same(either("greatests", (3, 9), (5, 1)), (5, 1))
        self.same(either("greatests", (-3, 2), (-5, 7)), (-3, 2))
        for word in ("leasts", "greatests"):
            for first in (4, 0, -4, 10 ** 29):
                self.same(either(word, (first, 2), (first, 3)), (first, 5))

    def test_none(self):
        for word, one in (("least", 4), ("greatest", 4), ("least", 0), ("greatest", 0), ("least", -4), ("greatest", -4),
                          ("leasts", (4, 2)), ("greatests", (4, 2)), ("leasts", (0, 1)), ("greatests", (-1, 3))):
            self.assertIsNone(both(word, None, one))
            self.assertIsNone(both(word, one, None))
            self.assertIsNone(both(word, None, None))
            self.same(either(word, None, one), one)
            self.same(either(word, one, None), one)
            self.assertIsNone(either(word, None, None))

    def test_whole_changes_nothing_and_nothing_has_no_way(self):
        for word in WORDS:
            for number in (0, 1, -6, 10 ** 29, EDGE, -EDGE):
                one = gain(word, number)
                self.same(both(word, whole(word), one), one)
                self.same(both(word, one, whole(word)), one)
                self.same(either(word, nothing(word), one), one)
                self.same(either(word, one, nothing(word)), one)
                self.assertEqual(both(word, nothing(word), one), nothing(word))
                self.assertEqual(both(word, one, nothing(word)), nothing(word))


class Great(Words):
    def test_sums_of_two(self):
        for word in ("least", "greatest"):
            self.same(both(word, EDGE - 5, 5), EDGE)
            self.same(both(word, EDGE, 1), "great")
            self.same(both(word, 1, EDGE), "great")
            self.same(both(word, -EDGE + 5, -5), -EDGE)
            self.same(both(word, -EDGE, -1), "great")
            self.same(both(word, EDGE, -EDGE), 0)
            self.same(both(word, EDGE, 0), EDGE)
            self.same(both(word, EDGE, EDGE), "great")
            self.assertIsNone(both(word, EDGE, None))
        for word in ("ways", "sum"):
            self.same(either(word, EDGE - 5, 5), EDGE)
            self.same(either(word, EDGE, 1), "great")
            self.same(either(word, 1, EDGE), "great")
            self.same(either(word, -EDGE, -1), "great")
            self.same(either(word, -EDGE, 0), -EDGE)

    def test_products(self):
        for word in ("ways", "sum"):
            self.same(both(word, HUGE, HUGE - 1), HUGE * (HUGE - 1))
            self.same(both(word, HUGE, HUGE), "great")
            self.same(both(word, -HUGE, HUGE), "great")
            self.same(both(word, -HUGE, HUGE - 1), -HUGE * (HUGE - 1))
            self.same(both(word, EDGE, 1), EDGE)
            self.same(both(word, EDGE, 2), "great")
            self.same(both(word, EDGE, -2), "great")
            self.same(both(word, EDGE, EDGE), "great")
            self.same(both(word, EDGE, 0), 0)

    def test_choices(self):
        for word in ("least", "greatest"):
            for one, other in ((EDGE, -EDGE), (-EDGE, EDGE)):
                self.same(either(word, one, other), -EDGE if word == "least" else EDGE)
            self.same(either(word, EDGE, None), EDGE)
            self.same(either(word, None, -EDGE), -EDGE)

    def test_pairs(self):
        for word in ("leasts", "greatests"):
            self.same(both(word, (EDGE - 1, 1), (1, 1)), (EDGE, 1))
            self.same(both(word, (EDGE, 1), (1, 1)), "great")
            self.same(both(word, (-EDGE, 1), (-1, 1)), "great")
            self.same(both(word, (1 - EDGE, 1), (-1, 1)), (-EDGE, 1))
            self.same(both(word, (1, HUGE), (1, HUGE - 1)), (2, HUGE * (HUGE - 1)))
            self.same(both(word, (1, HUGE), (1, HUGE)), "great")
            self.same(both(word, (EDGE, HUGE), (1, HUGE)), "great")
            self.same(either(word, (3, EDGE - 1), (3, 1)), (3, EDGE))
            self.same(either(word, (3, EDGE), (3, 1)), "great")
            self.same(either(word, (EDGE, EDGE - 1), (EDGE, 1)), (EDGE, EDGE))
            self.same(either(word, (3, EDGE), (4, EDGE)), (3, EDGE) if word == "leasts" else (4, EDGE))
            self.same(either(word, (3, EDGE), None), (3, EDGE))
            self.assertIsNone(both(word, (EDGE, EDGE), None))


if __name__ == "__main__":
    unittest.main()
