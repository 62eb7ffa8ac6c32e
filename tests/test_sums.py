"""Point 5: what sums come to."""

import copy
import unittest

from roomtables.sums import worth

A = 123456789012345678901234567890
B = 987654321098765432109876543210
SIXTY = 10 ** 60 - 1

GIVEN = {
    "count": 7, "deep": -5, "vast": A,
    "row": [4, -9, 0, B], "empty": [],
    "word": "azmb", "blank": "",
    "tree": (0, 0, 1, 0, 1), "root": (),
}
OWN = [3, -2, B]


def num(n):
    return ("num", n)


def told(one, own=OWN):
    return worth(one, GIVEN, own)


class Leaves(unittest.TestCase):
    def test_num(self):
        for n in (0, 1, -1, 12, A, -A):
            self.assertEqual(told(num(n)), n)

    def test_own(self):
        self.assertEqual([told(("own", k)) for k in range(3)], [3, -2, B])
        self.assertEqual(worth(("own", 0), {}, [9]), 9)

    def test_need(self):
        self.assertEqual([told(("need", x)) for x in ("count", "deep", "vast")], [7, -5, A])

    def test_size(self):
        sizes = [told(("size", x)) for x in ("row", "empty", "word", "blank", "tree", "root")]
        self.assertEqual(sizes, [4, 0, 4, 0, 6, 1])
        twelve = {"row": [5] * 12, "word": "c" * 12, "tree": tuple(range(11))}
        self.assertEqual([worth(("size", x), twelve, []) for x in ("row", "word", "tree")], [12, 12, 12])


class At(unittest.TestCase):
    def test_row(self):
        self.assertEqual([told(("at", "row", num(k))) for k in range(4)], [4, -9, 0, B])

    def test_text(self):
        self.assertEqual([told(("at", "word", num(k))) for k in range(4)], [0, 25, 12, 1])
        letters = "abcdefghijklmnopqrstuvwxyz"
        for at, letter in enumerate(letters):
            self.assertEqual(worth(("at", "word", num(0)), {"word": letter}, []), at)

    def test_place(self):
        for x in ("row", "word"):
            for k in (-1, -4, 4, 5, A, -A):
                self.assertEqual(told(("at", x, num(k))), "place", (x, k))
        for x in ("empty", "blank"):
            for k in (-1, 0, 1):
                self.assertEqual(told(("at", x, num(k))), "place", (x, k))

    def test_a_reckoned_place(self):
        self.assertEqual(told(("at", "row", ("less", ("own", 0), num(2)))), -9)


class Trees(unittest.TestCase):
    def test_kids(self):
        self.assertEqual([told(("kids", "tree", num(s))) for s in range(6)], [3, 2, 0, 0, 0, 0])
        self.assertEqual(told(("kids", "root", num(0))), 0)

    def test_kids_place(self):
        for s in (-1, -6, 6, 7, A, -A):
            self.assertEqual(told(("kids", "tree", num(s))), "place", s)
        for s in (-1, 1):
            self.assertEqual(told(("kids", "root", num(s))), "place", s)

    def test_kid_lesser_ones_first(self):
        self.assertEqual([told(("kid", "tree", num(0), num(t))) for t in range(3)], [1, 2, 4])
        self.assertEqual([told(("kid", "tree", num(1), num(t))) for t in range(2)], [3, 5])

    def test_kid_place(self):
        for s, t in ((0, 3), (0, -1), (1, 2), (1, -1), (1, -2), (2, 0), (5, 0), (6, 0), (-1, 0), (0, A), (A, 0), (-6, 0)):
            self.assertEqual(told(("kid", "tree", num(s), num(t))), "place", (s, t))
        self.assertEqual(told(("kid", "root", num(0), num(0))), "place")

    def test_twelve_knots(self):
        chain = {"tree": tuple(range(11))}
        self.assertEqual([worth(("kids", "tree", num(s)), chain, []) for s in range(12)], [1] * 11 + [0])
        self.assertEqual(worth(("kids", "tree", num(12)), chain, []), "place")
        self.assertEqual([worth(("kid", "tree", num(s), num(0)), chain, []) for s in range(11)], list(range(1, 12)))
        self.assertEqual(worth(("kid", "tree", num(11), num(0)), chain, []), "place")
        star = {"tree": (0,) * 11}
        self.assertEqual(worth(("kids", "tree", num(0)), star, []), 11)
        self.assertEqual([worth(("kid", "tree", num(0), num(t)), star, []) for t in range(11)], list(range(1, 12)))
        self.assertEqual(worth(("kid", "tree", num(0), num(11)), star, []), "place")


class Bits(unittest.TestCase):
    def test_full(self):
        powers = [1, 2, 4, 8, 16, 32, 64, 128, 256, 512, 1024, 2048, 4096]
        for s in range(13):
            self.assertEqual(told(("full", num(s))), powers[s] - 1)

    def test_full_place(self):
        for s in (-1, 13, 14, A, -A):
            self.assertEqual(told(("full", num(s))), "place", s)

    def test_with(self):
        for s, t, answer in ((0, 0, 1), (0, 12, 4096), (5, 1, 7), (5, 2, 5), (4096, 12, 4096), (8, 3, 8), (8, 0, 9)):
            self.assertEqual(told(("with", num(s), num(t))), answer, (s, t))
        self.assertEqual(told(("with", num(10 ** 29), num(3))), 10 ** 29 + 8)
        self.assertEqual(told(("with", num(10 ** 29 + 8), num(3))), 10 ** 29 + 8)

    def test_without(self):
        for s, t, answer in ((1, 0, 0), (4096, 12, 0), (5, 1, 5), (5, 2, 1), (0, 12, 0), (0, 0, 0), (15, 3, 7), (8, 0, 8)):
            self.assertEqual(told(("without", num(s), num(t))), answer, (s, t))
        self.assertEqual(told(("without", num(10 ** 29 + 8), num(3))), 10 ** 29)
        self.assertEqual(told(("without", num(10 ** 29), num(3))), 10 ** 29)

    def test_with_and_without_place(self):
        for word in ("with", "without"):
            for s, t in ((0, -1), (0, 13), (5, 13), (5, -1), (-1, 0), (-1, 12), (-A, 3), (A, A), (A, -A), (-1, 13)):
                self.assertEqual(told((word, num(s), num(t))), "place", (word, s, t))
            for s, t in ((0, 0), (0, 12), (5, 12), (A, 12), (A, 0)):
                self.assertIsInstance(told((word, num(s), num(t))), int, (word, s, t))

    def test_many(self):
        for s in list(range(70)) + [4095, 4096, 8191, A, B, 10 ** 29, 2 ** 99 - 1]:
            self.assertEqual(told(("many", num(s))), bin(s).count("1"), s)

    def test_many_place(self):
        for s in (-1, -2, -A):
            self.assertEqual(told(("many", num(s))), "place", s)


class Arithmetic(unittest.TestCase):
    def test_of_two(self):
        pairs = [(7, 2), (2, 7), (-7, 2), (7, -2), (-7, -2), (0, 5), (5, 0), (0, 0), (4, 4), (A, B), (B, A), (-A, B), (A, -B)]
        for s, t in pairs:
            parts = (num(s), num(t))
            self.assertEqual(told(("plus", *parts)), s + t, (s, t))
            self.assertEqual(told(("less", *parts)), s - t, (s, t))
            self.assertEqual(told(("times", *parts)), s * t, (s, t))
            self.assertEqual(told(("lesser", *parts)), s if s < t else t, (s, t))
            self.assertEqual(told(("greater", *parts)), s if s > t else t, (s, t))

    def test_half(self):
        for s, answer in ((0, 0), (1, 0), (2, 1), (3, 1), (-1, -1), (-2, -1), (-3, -2), (9, 4), (-9, -5)):
            self.assertEqual(told(("half", num(s))), answer, s)
        self.assertEqual(told(("half", num(A))), A // 2)
        self.assertEqual(told(("half", num(-10 ** 29 - 1))), -5 * 10 ** 28 - 1)

    def test_rest(self):
        for s, t, answer in ((7, 3, 1), (-7, 3, 2), (6, 3, 0), (-6, 3, 0), (0, 3, 0), (2, 3, 2), (-1, 3, 2), (5, 1, 0), (-5, 1, 0)):
            self.assertEqual(told(("rest", num(s), num(t))), answer, (s, t))
        self.assertEqual(told(("rest", num(B), num(A))), B - 8 * A)
        self.assertEqual(told(("rest", num(-1), num(A))), A - 1)

    def test_rest_nought(self):
        for t in (0, -1, -3, -A):
            for s in (7, 0, -7, A):
                self.assertEqual(told(("rest", num(s), num(t))), "nought", (s, t))


class Great(unittest.TestCase):
    def test_plus_at_the_edge(self):
        half = 5 * 10 ** 59
        self.assertEqual(told(("plus", ("own", 0), ("own", 1)), [half, half - 1]), SIXTY)
        self.assertEqual(told(("plus", ("own", 0), ("own", 1)), [half, half]), "great")
        self.assertEqual(told(("plus", ("own", 0), ("own", 1)), [-half, 1 - half]), -SIXTY)
        self.assertEqual(told(("plus", ("own", 0), ("own", 1)), [-half, -half]), "great")

    def test_less_at_the_edge(self):
        self.assertEqual(told(("less", ("own", 0), ("own", 1)), [SIXTY, 0]), SIXTY)
        self.assertEqual(told(("less", ("own", 0), ("own", 1)), [SIXTY, -1]), "great")
        self.assertEqual(told(("less", ("own", 0), ("own", 1)), [-SIXTY, 1]), "great")

    def test_times_at_the_edge(self):
        thirty = 10 ** 30 - 1
        self.assertEqual(told(("times", num(thirty), num(thirty))), thirty * thirty)
        self.assertEqual(told(("times", num(-thirty), num(thirty))), -thirty * thirty)
        self.assertEqual(told(("times", ("plus", num(thirty), num(1)), num(thirty))), thirty * 10 ** 30)
        self.assertEqual(told(("times", ("plus", num(thirty), num(1)), ("plus", num(thirty), num(1)))), "great")
        self.assertEqual(told(("times", ("less", num(-thirty), num(1)), ("plus", num(thirty), num(1)))), "great")

    def test_whatever_the_word(self):
        self.assertEqual(told(num(SIXTY)), SIXTY)
        self.assertEqual(told(num(-SIXTY)), -SIXTY)
        self.assertEqual(told(num(SIXTY + 1)), "great")
        self.assertEqual(told(num(-SIXTY - 1)), "great")
        self.assertEqual(told(("own", 0), [SIXTY]), SIXTY)
        self.assertEqual(told(("own", 0), [SIXTY + 1]), "great")
        self.assertEqual(worth(("need", "count"), {"count": SIXTY}, []), SIXTY)
        self.assertEqual(worth(("need", "count"), {"count": -SIXTY - 1}, []), "great")
        self.assertEqual(worth(("at", "row", num(0)), {"row": [SIXTY]}, []), SIXTY)
        self.assertEqual(worth(("at", "row", num(0)), {"row": [SIXTY + 1]}, []), "great")

    def test_a_great_part_is_a_fault_though_the_whole_is_not(self):
        vast = ("times", ("times", num(10 ** 29), num(10 ** 29)), num(1000))
        self.assertEqual(told(vast), "great")
        self.assertEqual(told(("less", vast, vast)), "great")
        self.assertEqual(told(("times", num(0), vast)), "great")
        self.assertEqual(told(("lesser", num(0), vast)), "great")
        self.assertEqual(told(("half", vast)), "great")

    def test_words_of_one_or_two_at_sixty_figures(self):
        for word in ("lesser", "greater"):
            self.assertEqual(told((word, ("own", 0), ("own", 0)), [SIXTY]), SIXTY)
        self.assertEqual(told(("half", ("own", 0)), [-SIXTY]), -SIXTY // 2)
        self.assertEqual(told(("rest", ("own", 0), ("own", 1)), [-1, SIXTY]), SIXTY - 1)
        self.assertEqual(told(("many", ("own", 0)), [SIXTY]), bin(SIXTY).count("1"))
        self.assertEqual(told(("with", ("own", 0), num(12)), [SIXTY]), SIXTY)
        self.assertEqual(told(("without", ("own", 0), num(12)), [SIXTY]), SIXTY - 4096)


PLACE = ("full", num(13))
NOUGHT = ("rest", num(1), num(0))
GREAT = ("times", ("times", num(10 ** 29), num(10 ** 29)), num(1000))
FAULTS = ((PLACE, "place"), (NOUGHT, "nought"), (GREAT, "great"))


class Faults(unittest.TestCase):
    def test_the_three(self):
        for one, fault in FAULTS:
            self.assertEqual(told(one), fault)

    def test_the_first_fault_met_from_the_left(self):
        for one, fault in FAULTS:
            for other, behind in FAULTS:
                for word in ("plus", "less", "times", "lesser", "greater", "with", "without", "rest"):
                    self.assertEqual(told((word, one, other)), fault, word)
                self.assertEqual(told(("kid", "tree", one, other)), fault)
                self.assertEqual(told(("plus", num(1), ("plus", one, other))), fault)
                self.assertEqual(told(("plus", ("plus", num(1), one), other)), fault)

    def test_a_fault_in_any_place(self):
        for one, fault in FAULTS:
            for word in ("plus", "less", "times", "lesser", "greater", "with", "without", "rest"):
                self.assertEqual(told((word, one, num(1))), fault, word)
                self.assertEqual(told((word, num(1), one)), fault, word)
            for word in ("full", "many", "half"):
                self.assertEqual(told((word, one)), fault, word)
            for x in ("row", "word"):
                self.assertEqual(told(("at", x, one)), fault, x)
            self.assertEqual(told(("kids", "tree", one)), fault)
            self.assertEqual(told(("kid", "tree", one, num(0))), fault)
            self.assertEqual(told(("kid", "tree", num(0), one)), fault)

    def test_parts_go_ahead_of_the_sums_own_fault(self):
        self.assertEqual(told(("rest", PLACE, num(0))), "place")
        self.assertEqual(told(("rest", num(1), ("full", num(-1)))), "place")
        self.assertEqual(told(("with", num(-1), NOUGHT)), "nought")
        self.assertEqual(told(("with", NOUGHT, num(13))), "nought")
        self.assertEqual(told(("without", num(-1), NOUGHT)), "nought")
        self.assertEqual(told(("kid", "tree", num(9), NOUGHT)), "nought")
        self.assertEqual(told(("kid", "tree", num(9), GREAT)), "great")
        self.assertEqual(told(("at", "empty", NOUGHT)), "nought")

    def test_a_fault_is_a_text(self):
        for one, fault in FAULTS:
            self.assertIsInstance(told(one), str)


class Whole(unittest.TestCase):
    def test_worths_are_whole_numbers_and_no_truths(self):
        for one in (num(0), num(1), ("many", num(1)), ("lesser", num(1), num(0)), ("rest", num(3), num(2)),
                    ("half", num(2)), ("full", num(1)), ("kids", "root", num(0)), ("size", "root")):
            self.assertIs(type(told(one)), int, one)

    def test_sixty_deep(self):
        one = num(1)
        for _ in range(59):
            one = ("plus", one, num(1))
        self.assertEqual(told(one), 60)
        one = num(1)
        for _ in range(59):
            one = ("less", num(1), one)
        self.assertEqual(told(one), 0)
        one = NOUGHT
        for _ in range(58):
            one = ("half", one)
        self.assertEqual(told(one), "nought")

    def test_a_nest_of_many_words(self):
        one = ("plus", ("times", ("at", "row", ("own", 0)), num(2)), ("kid", "tree", num(0), ("kids", "tree", num(1))))
        self.assertEqual(told(one, [0]), 4 * 2 + 4)

    def test_nothing_is_changed(self):
        given, own = copy.deepcopy(GIVEN), list(OWN)
        for one in (("at", "row", num(1)), ("size", "tree"), ("plus", ("own", 0), ("own", 1)), PLACE, GREAT,
                    ("kid", "tree", num(0), num(1)), ("with", num(3), num(4))):
            kept = copy.deepcopy(one)
            worth(one, given, own)
            self.assertEqual(one, kept)
        self.assertEqual(given, GIVEN)
        self.assertEqual(own, OWN)

    def test_only_the_needs_that_stand_there_are_asked(self):
        self.assertEqual(worth(("size", "row"), {"row": [1]}, []), 1)
        self.assertEqual(worth(num(4), {}, []), 4)


if __name__ == "__main__":
    unittest.main()
