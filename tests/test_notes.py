"""Point 29: cells, worths, papers and rules written, and cells, worths and papers read."""

import copy
import random
import unittest

import making
from odd_things import ODD
from roomtables.errors import NoText
from roomtables.notes import read_cell, read_paper, read_worth, show_cell, show_paper, show_rule, show_worth
from roomtables.programs import program_of
from roomtables.rules import rules
from roomtables.words import WORDS
from writing import at, gain, num

PROGRAM = program_of((("count", "number"),), (
    ("best", (num(9), num(9)), gain(1)), ("fun", (num(9),), gain(1)), ("abcdefgh", (num(9), num(9), num(9)), gain(1)),
))
FAULTS = ("place", "nought", "great", "wide", "beyond")

# Texts that write no whole number.
NO_NUMBERS = [
    "", "-", "--1", "+1", "00", "01", "-0", "-00", "-01", "007", "1.0", "1.", "1e3", "1_0", "0x1", "x", "a", "1a", "a1", " 1", "1 ", "1 2", "(1)", "1)",
    "\n1", "1\n", "\u0661", "\u00b2", "\uff11", "1" * 401, "-" + "1" * 401, "1" + "0" * 400, "0" * 400, "1-", "-1-", "'1'", "\t1", "1;", "1:",
]
NUMBERS = [0, 1, -1, 9, 10, -10, 100, 10 ** 29, -10 ** 29, 10 ** 400 - 1, -10 ** 400 + 1, 10 ** 399]


class Notes(unittest.TestCase):
    def refuses(self, asked, *handed):
        with self.assertRaises(NoText, msg=handed) as caught:
            asked(*handed)
        self.assertEqual(caught.exception.line, 0)


class Cells(Notes):
    def wrong(self, *texts):
        for text in texts:
            self.refuses(read_cell, PROGRAM, text)

    def test_as_they_are_written(self):
        for cell, text in (
            (at(0, 3, -1), "best(3,-1)"), (at(0, 0, 0), "best(0,0)"), (at(1, 7), "fun(7)"), (at(2, 1, 2, 3), "abcdefgh(1,2,3)"),
            (at(1, 10 ** 29), "fun(1" + "0" * 29 + ")"), (at(0, -10, 10), "best(-10,10)"),
        ):
            self.assertEqual(show_cell(PROGRAM, cell), text)
            self.assertEqual(read_cell(PROGRAM, text), cell)

    def test_any_function_and_one_number_or_more(self):
        for function, name in enumerate(("best", "fun", "abcdefgh")):
            for many in (1, 2, 3, 4, 60):
                for number in NUMBERS:
                    cell = (function, (number,) * many)
                    text = f"{name}({','.join([str(number)] * many)})"
                    self.assertEqual(show_cell(PROGRAM, cell), text)
                    self.assertEqual(read_cell(PROGRAM, text), cell)

    def test_tuples(self):
        told = read_cell(PROGRAM, "best(3,-1)")
        self.assertEqual([type(told), type(told[0]), type(told[1]), type(told[1][0])], [tuple, int, tuple, int])

    def test_a_function_that_is_not_there(self):
        self.wrong("other(1)", "bes(1)", "bestt(1)", "Best(1)", "BEST(1)", "count(1)", "(1)", "0(1)", "best best(1)", "a(1)", "num(1)")

    def test_without_args(self):
        self.wrong("best()", "best", "best(", "best)", "best( )", "best(,)", "best(,1)", "best(1,)", "best(1,,2)")

    def test_blanks_commas_and_brackets(self):
        self.wrong(
            " best(1)", "best(1) ", "best (1)", "best( 1)", "best(1 )", "best(1, 2)", "best(1 ,2)", "best(1 2)", "best((1))", "best(1))", "((best(1)",
            "best((1)", "best(1", "best1)", "best[1]", "best(1;2)", "best(1)(2)", "best(1)best(2)", "(best(1))", "best(1)\n", "\nbest(1)", "", " ",
            "best(1),", ",best(1)", "best{1}", "best(1).", "best:1", "best(1,2", "best(12", "best(1,23", "best(1(2))", "fun best(1)",
        )

    def test_numbers(self):
        for text in NO_NUMBERS:
            self.wrong(f"best({text})", f"best(1,{text})", f"best({text},1)")

    def test_what_is_no_text(self):
        for thing in ODD + [at(0, 1), b"best(1)", ["best(1)"], 5, None]:
            self.refuses(read_cell, PROGRAM, thing)


class Worths(Notes):
    def test_as_they_are_written(self):
        for worth, text in (
            (None, "none"), (0, "0"), (-7, "-7"), ((7, 3), "7x3"), ((-7, 1), "-7x1"), ((0, 0), "0x0"), ((1, -2), "1x-2"),
            ("place", "!place"), ("nought", "!nought"), ("great", "!great"), ("wide", "!wide"), ("beyond", "!beyond"),
        ):
            self.assertEqual(show_worth(worth), text)
            told = read_worth(text)
            self.assertEqual(told, worth)
            self.assertIs(type(told), type(worth))

    def test_numbers_of_four_hundred_figures(self):
        for number in NUMBERS:
            for worth in (number, (number, 1), (1, number), (number, number)):
                self.assertEqual(read_worth(show_worth(worth)), worth)
        self.assertEqual(show_worth(10 ** 400 - 1), "9" * 400)

    def test_numbers_that_are_none(self):
        for text in NO_NUMBERS:
            # This one is a pair.
            if text != "0x1":
                self.refuses(read_worth, text)
            self.refuses(read_worth, f"{text}x1")
            self.refuses(read_worth, f"1x{text}")

    def test_what_is_not_so_written(self):
        for text in (
            "None", "NONE", "none ", " none", "nonee", "non", "!", "!none", "! place", "!place ", "place", "great", "!Place", "!places", "!plac", "!!place",
            "!other", "!ring", "!7", "!7x3", "7X3", "7*3", "7 x 3", "7x 3", "7 x3", "7x3x2", "7xx3", "x7", "7x", "x", "7,3", "(7,3)", "(7, 3)", "7x3 ",
            "nonex1", "7xnone", "7x!place", "True", "False", "yes", "0.5", "!place!wide", "!place,wide",
        ):
            self.refuses(read_worth, text)

    def test_what_is_no_text(self):
        for thing in [one for one in ODD if one != "none"] + [7, (7, 3), b"7", b"none", ["7"], True]:
            self.refuses(read_worth, thing)
        self.refuses(read_worth, None)

    def test_drawn(self):
        chance = random.Random(91)
        for _ in range(300):
            worth = making.a_worth(chance, chance.choice(WORDS))
            self.assertEqual(read_worth(show_worth(worth)), worth)


class Papers(Notes):
    PAPER = [(at(0, 3, -1), 0, 7), (at(1, 2), 12, None), (at(2, 1, 2, 3), 999, (7, 3)), (at(1, 2), 0, "place"), (at(0, 1), 5, -5)]
    TEXT = "best(3,-1) 0 7; fun(2) 12 none; abcdefgh(1,2,3) 999 7x3; fun(2) 0 !place; best(1) 5 -5"

    def wrong(self, *texts):
        for text in texts:
            self.refuses(read_paper, PROGRAM, text)

    def test_as_they_are_written(self):
        self.assertEqual(show_paper(PROGRAM, self.PAPER), self.TEXT)
        self.assertEqual(read_paper(PROGRAM, self.TEXT), self.PAPER)

    def test_kinds(self):
        told = read_paper(PROGRAM, self.TEXT)
        self.assertIs(type(told), list)
        self.assertEqual([type(row) for row in told], [tuple] * 5)
        for cell, room, worth in told:
            self.assertEqual([type(cell), type(room)], [tuple, int])

    def test_without_rows(self):
        self.assertEqual(show_paper(PROGRAM, []), "")
        self.assertEqual(read_paper(PROGRAM, ""), [])
        self.assertIs(type(read_paper(PROGRAM, "")), list)

    def test_one_row(self):
        for row, text in zip(self.PAPER, self.TEXT.split("; ")):
            self.assertEqual(show_paper(PROGRAM, [row]), text)
            self.assertEqual(read_paper(PROGRAM, text), [row])

    def test_a_room_is_any_whole_number(self):
        for room in NUMBERS + [-1, 1000, -999]:
            paper = [(at(1, 2), room, 3)]
            self.assertEqual(show_paper(PROGRAM, paper), f"fun(2) {room} 3")
            self.assertEqual(read_paper(PROGRAM, f"fun(2) {room} 3"), paper)
        for text in NO_NUMBERS + ["none", "!place", "7x3", "fun(2)"]:
            self.wrong(f"fun(2) {text} 3", f"fun(2) 1 3; fun(2) {text} 3")

    def test_what_is_not_so_written(self):
        self.wrong(
            " ", ";", "; ", self.TEXT + "; ", "; " + self.TEXT, self.TEXT + ";", self.TEXT + " ", " " + self.TEXT, self.TEXT.replace("; ", ";"),
            self.TEXT.replace("; ", " ; "), self.TEXT.replace("; ", ";  "), self.TEXT.replace("; ", ", "), self.TEXT.replace("; ", "\n"),
            self.TEXT.replace("; ", "; ; "), self.TEXT.replace(" ", "  "), self.TEXT + "\n", "fun(2)", "fun(2) 1", "fun(2) 1 3 4", "fun(2),1,3",
            "fun(2) 1 3;", "fun(2)  1 3", "fun(2) 1  3", "1 fun(2) 3", "fun(2) 1 3 fun(2) 1 3", "other(2) 1 3", "fun() 1 3", "fun 1 3", "fun(2) 1 x",
            "fun(2) 1 !other", "fun(2) 1 None", "(fun(2) 1 3)", "fun(2, 3) 1 3", "-", "none", "[]",
        )

    def test_each_part(self):
        rows = self.TEXT.split("; ")
        for place in range(len(rows)):
            words = rows[place].split(" ")
            for at_word in range(3):
                for other in ("", "x", "01", "-0", "fun(2", words[at_word] + "x", "1" * 401):
                    bent = words[:at_word] + [other] + words[at_word + 1:]
                    self.wrong("; ".join(rows[:place] + [" ".join(bent)] + rows[place + 1:]))

    def test_what_is_no_text(self):
        for thing in [one for one in ODD if one != ""] + [self.PAPER, [], (), None, b"", self.TEXT.encode()]:
            self.refuses(read_paper, PROGRAM, thing)

    def test_a_thousand_rows(self):
        paper = self.PAPER * 200
        self.assertEqual(read_paper(PROGRAM, show_paper(PROGRAM, paper)), paper)

    def test_nothing_is_changed_and_the_askers_own(self):
        paper = copy.deepcopy(self.PAPER)
        self.assertEqual(show_paper(PROGRAM, paper), show_paper(PROGRAM, paper))
        self.assertEqual(paper, self.PAPER)
        told = read_paper(PROGRAM, self.TEXT)
        told.clear()
        self.assertEqual(read_paper(PROGRAM, self.TEXT), self.PAPER)
        read_paper(PROGRAM, "").append(1)
        self.assertEqual(read_paper(PROGRAM, ""), [])


class Rules(Notes):
    def test_as_they_are_written(self):
        for rule, text in (
            ((), "-"), ((("up", 0),), "up 0"), ((("down", 2),), "down 2"), ((("wide", 1), ("bits", 2)), "wide 1, bits 2"),
            ((("bits", 0), ("up", 1)), "bits 0, up 1"), ((("up", 0), ("up", 1)), "up 0, up 1"),
        ):
            self.assertEqual(show_rule(rule), text)

    def test_all_unlike(self):
        self.assertEqual(len({show_rule(rule) for rule in rules()}), len(rules()))


if __name__ == "__main__":
    unittest.main()
