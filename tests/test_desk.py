"""Point 30 and the interface's rows: the desk."""

import itertools
import unittest

from odd_things import ODD
from roomtables.checker import lets_by
from roomtables.desk import Desk
from roomtables.errors import (
    NoBack, NoCell, NoGiven, NoName, NoProgram, NoRoad, NoRow, NoRule, NoText, NoTurn, Ring, RoomError, TooGreat,
)
from roomtables.givens import given_of
from roomtables.notes import read_paper
from roomtables.papers import fewest, paper_of
from roomtables.reader import read
from roomtables.words import WORDS
from writing import at

# The least cost of climbing, one or two steps at a time.
CLIMB = "row costs\nfun climb ((less (size costs) 1)) (both (gain (at costs a)) (if (below a 2) (gain 0) (choose (call climb (less a 1)) (call climb (less a 2)))))"

# One need of each kind, and functions that tell what is given.
KINDS = "\n".join([
    "number count", "row line", "text word", "tree knots",
    "fun total (99) (gain count)",
    "fun nth (20) (if (below a (size line)) (gain (at line a)) (gain (size line)))",
    "fun letter (20) (if (below a (size word)) (gain (at word a)) (gain (size word)))",
    "fun kin (20) (if (below a (size knots)) (gain (kids knots a)) (gain (size knots)))",
])

# A ring of two cells and one of one cell, ways, a pair of places and a fault.
ODDS = "\n".join([
    "fun ring (9) (if (same a 0) (call ring 1) (if (same a 1) (both (gain 1) (call ring 0)) (if (same a 2) (call ring 2) (gain a))))",
    "fun pair (9 9) (if (same a 0) (choose (gain b) (gain b) (none)) (call pair (less a 1) (half b)))",
    "fun bad (9) (if (same a 0) (gain (rest a 0)) (if (same a 1) (none) (call bad (plus a 9))))",
    "fun far (300) (if (same a 0) (gain 1) (call far (less a 1)))",
])


class Desks(unittest.TestCase):
    def desk(self, text=CLIMB, *rows):
        desk = Desk(text)
        for row in rows:
            self.assertEqual(desk.say(row), "ok")
        return desk

    def says(self, desk, row, due):
        told = desk.say(row)
        self.assertEqual(told, due, row)
        self.assertIs(type(told), str)

    def refuses(self, desk, error, *rows):
        for row in rows:
            with self.assertRaises(error, msg=row) as caught:
                desk.say(row)
            self.assertIs(type(caught.exception), error)
            if error is NoText:
                self.assertEqual(caught.exception.line, 0)


class Made(Desks):
    def test_refused_as_reading_is(self):
        for text, line in (("", 0), (CLIMB + "\n", 2), (CLIMB.replace("(at costs a)", "(at costs  a)"), 1), (None, 0), (b"", 0), (7, 0)):
            with self.assertRaises(NoText) as caught:
                Desk(text)
            self.assertEqual(caught.exception.line, line)
        self.assertRaises(NoProgram, Desk, "row costs")
        self.assertRaises(NoProgram, Desk, "fun climb () (call climb)")

    def test_the_program(self):
        for text in (CLIMB, KINDS, ODDS):
            self.says(self.desk(text), "program", text)


class Give(Desks):
    def test_each_kind(self):
        desk = self.desk(KINDS, "give count -70", "give line 5,-3,0", "give word azb", "give knots 0,0,1")
        self.says(desk, "answer least total(0)", "-70")
        for arg, due in enumerate((5, -3, 0, 3)):
            self.says(desk, f"answer least nth({arg})", str(due))
        for arg, due in enumerate((0, 25, 1, 3)):
            self.says(desk, f"answer least letter({arg})", str(due))
        for arg, due in enumerate((2, 1, 0, 0, 4)):
            self.says(desk, f"answer least kin({arg})", str(due))

    def test_nothing_in_it(self):
        desk = self.desk(KINDS, "give count 0", "give line -", "give word -", "give knots -")
        for name, due in (("total", 0), ("nth", 0), ("letter", 0), ("kin", 0)):
            self.says(desk, f"answer least {name}(0)", str(due))
        self.says(desk, "answer least kin(1)", "1")

    def test_again(self):
        desk = self.desk(CLIMB, "give costs 10,15,20")
        self.says(desk, "answer least climb(2)", "30")
        self.says(desk, "give costs 1,2,3", "ok")
        self.says(desk, "answer least climb(2)", "4")

    def test_twelve_and_thirteen(self):
        for row in (
            "give line " + ",".join(["7"] * 12), "give word " + "z" * 12, "give knots " + ",".join(["0"] * 11), "give line " + ",".join(["-7"] * 12),
        ):
            self.desk(KINDS, row)
        desk = self.desk(KINDS)
        for many in (13, 14, 60, 1000):
            self.refuses(desk, NoGiven, "give line " + ",".join(["7"] * many), "give word " + "z" * many, "give knots " + ",".join(["0"] * many))
        self.refuses(desk, NoGiven, "give knots " + ",".join(["0"] * 12))

    def test_thirty_figures_and_more(self):
        for figures in (1, 2, 29, 30):
            for sign in ("", "-"):
                desk = self.desk(KINDS, f"give count {sign}{'9' * figures}", f"give line 1,{sign}{'9' * figures},2", "give word -", "give knots -")
                self.says(desk, "answer least total(0)", sign + "9" * figures)
                self.says(desk, "answer least nth(1)", sign + "9" * figures)
        desk = self.desk(KINDS)
        for figures in (31, 32, 60, 61, 99, 100):
            for sign in ("", "-"):
                number = f"{sign}1{'0' * (figures - 1)}"
                self.refuses(desk, NoGiven, f"give count {number}", f"give line {number}", f"give line 1,{number},2", f"give knots {number}",
                             f"give knots 0,{number}")
        for figures in (101, 102, 400, 5000):
            for sign in ("", "-"):
                number = sign + "9" * figures
                self.refuses(desk, NoText, f"give count {number}", f"give line {number}", f"give line 1,{number}", f"give knots 0,{number}")

    def test_trees_that_are_none(self):
        desk = self.desk(KINDS)
        self.refuses(desk, NoGiven, "give knots 1", "give knots -1", "give knots 0,2", "give knots 0,0,3", "give knots 0,-1", "give knots 0,1,2,4")
        for tree in ("0", "0,1", "0,1,2", "0,0,0", "0,1,0,3"):
            self.says(desk, f"give knots {tree}", "ok")

    def test_what_is_not_so_written(self):
        desk = self.desk(KINDS)
        for text in ("", "--", "x", "01", "-0", "00", "+1", "1.0", "1_0", "0x1", "1,", ",1", "1,,2", ",", "(1)", "1;2", "[1]", "1,-", "-,1", "1,x", "1,02"):
            self.refuses(desk, NoText, f"give count {text}", f"give line {text}", f"give knots {text}")
        self.refuses(desk, NoText, "give count -", "give count 1,2", "give count abc", "give line abc", "give knots abc")
        for text in ("", "A", "aB", "a1", "1", "a-", "--", "-a", "a,b", "a.b", "a_b", "\u00e9", "a\n", "\ta", "ab\u00e9", "'a'"):
            self.refuses(desk, NoText, f"give word {text}")

    def test_text_that_is_a_word_elsewhere(self):
        for text in ("none", "give", "least", "a", "number"):
            self.desk(KINDS, f"give word {text}")


class Names(Desks):
    def test_none_of_it(self):
        desk = self.desk(KINDS)
        for name in ("other", "coun", "countt", "Count", "total", "nth", "", "0", "number", "-", "count,", "(count)"):
            self.refuses(desk, NoName, f"give {name} 5", f"give {name} -", f"give {name} x", f"give {name} ")
        desk = self.desk(CLIMB)
        for name in ("other", "clim", "Climb", "costs", "", "0", "climb(0)", "(climb", "call"):
            self.refuses(desk, NoName, f"exchange {name} 0", f"exchange {name} x", f"exchange {name} 0 1", f"put {name} 0", f"put {name} x")

    def test_ahead_of_what_is_not_so_written(self):
        self.refuses(self.desk(CLIMB), NoName, "give other 01", "exchange other 01", "exchange other -1 x", "put other 01", "put other ")


class Rows(Desks):
    def test_by_the_first_word(self):
        for text in (CLIMB, ODDS):
            self.refuses(
                self.desk(text), NoRow, "", " ", "  ", "other", "Give costs 1", "GIVE costs 1", "gives costs 1", "giv costs 1", " give costs 1",
                " program", "programs", "program\n", "\nprogram", "program\t", "climb(2)", "least climb(2)", "fun climb (1) (none)", "ok", "yes",
                "move climb 0", "moved climb 0", "wanted climb(2)", "table least climb(2)", "walks climb(2)", "answers least climb(2)", "back\n", "Back",
                "-", "none", "5",
            )

    def test_by_how_many_words(self):
        desk = self.desk(CLIMB, "give costs 1,2,3")
        self.refuses(
            desk, NoRow, "give", "give costs", "give costs 1 2", "give  costs 1", "give costs  1", "give costs 1 ", "give costs 1, 2",
            "exchange", "exchange climb", "put", "put climb", "put climb 0 0", "put climb 0 ", "put  climb 0", "back ", "back 1", "back  ", "back back",
            "answer", "answer least", "answer climb(2)", "answer least climb(2) ", "answer least  climb(2)", "answer  least climb(2)",
            "answer least climb(2) climb(1)", "answer least climb(1, 2)", "ring", "ring  climb(2)", "ring climb(2) ", "ring climb(2) climb(1)",
            "rooms", "rooms climb(2) ", "rooms  climb(2)", "rooms least climb(2)", "paper", "paper least", "paper climb(2)", "paper least climb(2) ",
            "paper least climb(2) tight", "look", "look least", "look least climb(2)", "road", "road least", "road climb(2)", "road least climb(2) ",
            "road  least climb(2)", "program ", "program climb", "program  ",
        )

    def test_a_word_without_signs(self):
        desk = self.desk(CLIMB, "give costs 1,2,3")
        self.refuses(desk, NoText, "give costs ", "answer  climb(2)", "answer least ", "ring ", "rooms ", "paper  climb(2)", "paper least ",
                     "road  climb(2)", "road least ", "put climb ", "exchange climb ", "exchange climb 0 ", "exchange climb  0", "look  climb(2) ",
                     "look least  ", "look least climb(2)  ")
        self.refuses(desk, NoName, "give  1", "put  0", "exchange  0")

    def test_what_is_no_text(self):
        desk = self.desk(CLIMB)
        for thing in [one for one in ODD if not isinstance(one, str)] + [None, 5, b"program", ["program"], ("program",), {"program": 1}]:
            self.refuses(desk, NoRow, thing)
        for thing in [one for one in ODD if isinstance(one, str)]:
            self.refuses(desk, NoRow, thing)

    def test_ahead_of_all_else(self):
        self.refuses(self.desk(CLIMB), NoRow, "give other x y", "put other x y", "answer x y z", "ring x y", "look x y")


class FromTheLeft(Desks):
    def test_words_that_are_none(self):
        desk = self.desk(CLIMB, "give costs 1,2,3")
        for word in ("Least", "leas", "leastt", "", "min", "all", "tight", "0", "none", "least,", "LEAST"):
            self.refuses(desk, NoText, f"answer {word} climb(2)", f"paper {word} climb(2)", f"look {word} climb(2) ", f"road {word} climb(2)")

    def test_cells_that_are_not_so_written(self):
        desk = self.desk(CLIMB, "give costs 1,2,3")
        for cell in ("", "climb", "climb()", "climb(02)", "climb(-0)", "climb(2", "climb2)", "other(2)", "costs(2)", "climb(2,)", "climb((2))", "2", "x",
                     "climb(2);", "Climb(2)", "climb(" + "1" * 401 + ")"):
            self.refuses(desk, NoText, f"answer least {cell}", f"ring {cell}", f"rooms {cell}", f"paper least {cell}", f"look least {cell} ",
                         f"road least {cell}")

    def test_numbers_that_are_not_so_written(self):
        desk = self.desk(CLIMB)
        for number in ("", "-1", "-0", "00", "01", "x", "100", "999", "1.0", "+1", "0,1", "(0)", "1_", "\u0661", "a"):
            self.refuses(desk, NoText, f"put climb {number}", f"exchange climb {number}", f"exchange climb 0 {number}", f"exchange climb {number} 0")
        self.refuses(desk, NoTurn, "put climb 2", "put climb 9", "put climb 10", "put climb 99", "exchange climb 1", "exchange climb 99")

    def test_papers_that_are_not_so_written(self):
        desk = self.desk(CLIMB, "give costs 1,2,3")
        for paper in (" ", "x", "climb(0)", "climb(0) 0", "climb(0) 0 1 ", " climb(0) 0 1", "climb(0) 0 1;", "climb(0) 0 1; ", "climb(0) 0 x",
                      "climb(0) 0 1;climb(1) 1 2", "climb(0)  0 1", "climb(0) 00 1", "other(0) 0 1", "climb(0) 0 !none", "climb(0) 0 1, climb(1) 1 2"):
            self.refuses(desk, NoText, f"look least climb(2) {paper}")

    def test_ahead_of_what_is_given(self):
        desk = self.desk(CLIMB)
        self.refuses(desk, NoText, "answer leas climb(2)", "answer least climb", "ring climb", "rooms climb", "paper leas climb(2)", "paper least climb",
                     "look leas climb(2) ", "look least climb ", "look least climb(2) x", "road leas climb(2)", "road least climb")
        self.refuses(desk, NoGiven, "answer least climb(2)", "ring climb(2)", "rooms climb(2)", "paper least climb(2)", "look least climb(2) ",
                     "look least climb(2) climb(0) 0 1", "road least climb(2)", "road ways climb(2)")

    def test_nothing_given_ahead_of_the_stages(self):
        for most in range(4):
            for names in itertools.combinations((("count", "5"), ("line", "5"), ("word", "a"), ("knots", "0")), most):
                desk = self.desk(KINDS, *[f"give {name} {thing}" for name, thing in names])
                for cell in ("total(0)", "total(100)", "total(0,0)", "nth(-1)"):
                    self.refuses(desk, NoGiven, f"answer least {cell}", f"ring {cell}", f"rooms {cell}", f"paper sum {cell}", f"look sum {cell} ",
                                 f"road ways {cell}")

    def test_rows_without_a_cell_need_nothing_given(self):
        desk = self.desk(CLIMB)
        self.says(desk, "exchange climb 0", "ok")
        self.says(desk, "program", CLIMB)
        self.says(desk, "back", "ok")


class Answers(Desks):
    def test_worths(self):
        desk = self.desk(CLIMB, "give costs 10,15,20")
        for word, due in (("least", "30"), ("greatest", "35"), ("ways", "2"), ("sum", "0"), ("leasts", "30x1"), ("greatests", "35x1")):
            self.says(desk, f"answer {word} climb(2)", due)
        desk = self.desk(ODDS)
        for word, due in (("least", "2"), ("greatest", "2"), ("ways", "2"), ("sum", "4"), ("leasts", "2x2"), ("greatests", "2x2")):
            self.says(desk, f"answer {word} pair(2,9)", due)
        for word, due in (("least", "none"), ("greatest", "none"), ("ways", "0"), ("sum", "0"), ("leasts", "none"), ("greatests", "none")):
            self.says(desk, f"answer {word} bad(1)", due)
        for word in WORDS:
            self.says(desk, f"answer {word} bad(0)", "!nought")
            self.says(desk, f"answer {word} bad(2)", "!beyond")
        self.says(desk, "answer least far(199)", "1")

    def test_each_fault(self):
        text = "fun bad (9) (if (same a 0) (gain (full 13)) (if (same a 1) (each 0 16 (none)) (gain (times 999999999999999999999999999999 " \
               "(times 999999999999999999999999999999 1000)))))"
        desk = self.desk(text)
        for arg, due in enumerate(("!place", "!wide", "!great")):
            self.says(desk, f"answer sum bad({arg})", due)

    def test_as_the_stages_refuse(self):
        desk = self.desk(ODDS)
        for cell in ("ring(10)", "ring(-1)", "ring(0,0)", "pair(1)", "pair(1,10)", "far(301)", "ring(" + "9" * 400 + ")"):
            self.refuses(desk, NoCell, f"answer least {cell}", f"ring {cell}", f"rooms {cell}", f"paper least {cell}", f"look least {cell} ",
                         f"road least {cell}", f"road ways {cell}")
        self.refuses(desk, TooGreat, "answer least far(200)", "ring far(200)", "rooms far(200)", "paper least far(200)", "road ways far(200)")
        self.refuses(desk, Ring, "answer least ring(0)", "rooms ring(0)", "paper least ring(1)", "road least ring(2)", "road ways ring(2)")
        self.refuses(desk, NoRoad, "road ways pair(2,9)", "road sum far(3)", "road leasts ring(5)", "road greatests ring(5)", "road least bad(0)")
        self.assertRaises(RoomError, desk.say, "answer least ring(0)")

    def test_the_cells_of_a_ring(self):
        desk = self.desk(ODDS)
        with self.assertRaises(Ring) as caught:
            desk.say("answer least ring(0)")
        self.assertEqual(sorted(caught.exception.cells), [at(0, 0), at(0, 1)])


class Rings(Desks):
    def test_rings(self):
        desk = self.desk(ODDS)
        self.assertIn(desk.say("ring ring(0)"), ("ring(0) ring(1)", "ring(1) ring(0)"))
        self.assertIn(desk.say("ring ring(1)"), ("ring(0) ring(1)", "ring(1) ring(0)"))
        self.says(desk, "ring ring(2)", "ring(2)")

    def test_none(self):
        desk = self.desk(ODDS)
        for cell in ("ring(3)", "pair(2,9)", "bad(0)", "bad(1)", "far(199)"):
            self.says(desk, f"ring {cell}", "none")

    def test_of_several_places(self):
        desk = self.desk("fun pair (9 9) (call pair b a)")
        self.assertIn(desk.say("ring pair(1,2)"), ("pair(1,2) pair(2,1)", "pair(2,1) pair(1,2)"))


class Papers(Desks):
    def test_rooms(self):
        self.says(self.desk(CLIMB, "give costs 10,15,20"), "rooms climb(2)", "up 0: 2")
        self.says(self.desk(ODDS), "rooms ring(7)", "-: 1")
        self.says(self.desk(ODDS), "rooms far(50)", "up 0: 1")
        two = "fun pair (9 9) (if (or (same a 0) (same b 0)) (gain 1) (both (call pair (less a 1) b) (call pair a (less b 1))))"
        desk = self.desk(two)
        rule, many = fewest(read(two), {}, at(0, 3, 3))
        self.assertEqual(len(rule), 2)
        self.says(desk, "rooms pair(3,3)", f"{rule[0][0]} {rule[0][1]}, {rule[1][0]} {rule[1][1]}: {many}")

    def test_no_rule(self):
        text = "fun odd (9) (if (same a 0) (call odd 5) (if (same a 5) (call odd 1) (if (same a 1) (call odd 4) (gain a))))"
        desk = self.desk(text)
        self.refuses(desk, NoRule, "rooms odd(0)", "paper least odd(0)")
        self.says(desk, "answer least odd(0)", "4")
        self.says(desk, "ring odd(0)", "none")

    def test_papers(self):
        desk = self.desk(CLIMB, "give costs 10,15,20,5")
        self.says(desk, "paper least climb(2)", "climb(0) 0 10; climb(1) 1 15; climb(2) 0 30")
        self.says(desk, "paper leasts climb(3)", "climb(0) 0 10x1; climb(1) 1 15x1; climb(2) 0 30x1; climb(3) 0 20x1")
        self.says(desk, "paper ways climb(0)", "climb(0) 0 1")
        desk = self.desk(ODDS)
        self.says(desk, "paper least bad(1)", "bad(1) 0 none")
        self.says(desk, "paper sum bad(0)", "bad(0) 0 !nought")

    def test_tight_by_that_rule(self):
        two = "fun pair (9 9) (if (or (same a 0) (same b 0)) (gain 1) (both (call pair (less a 1) b) (call pair a (less b 1))))"
        program = read(two)
        for word in WORDS:
            due = paper_of(program, {}, at(0, 3, 2), word, fewest(program, {}, at(0, 3, 2))[0], "tight")
            self.assertEqual(read_paper(program, self.desk(two).say(f"paper {word} pair(3,2)")), due)

    def test_look(self):
        desk = self.desk(CLIMB, "give costs 10,15,20")
        for paper, due in (
            ("climb(0) 0 10; climb(1) 1 15; climb(2) 0 30", "yes"), ("climb(0) 0 10; climb(1) 1 15; climb(2) 2 30", "yes"),
            ("climb(0) 7 10; climb(1) 999 15; climb(2) 0 30", "yes"), ("climb(0) 0 10; climb(1) 0 15; climb(2) 0 30", "no"),
            ("climb(0) 0 10; climb(1) 1 15; climb(2) 0 31", "no"), ("climb(0) 0 10; climb(1) 1 15", "no"), ("climb(0) 0 10", "no"),
            ("climb(0) -1 10; climb(1) 1 15; climb(2) 0 30", "no"), ("climb(0) 1000 10; climb(1) 1 15; climb(2) 0 30", "no"), ("", "no"),
            ("climb(0) 0 none", "no"), ("climb(7) 0 10", "no"), ("climb(0,0) 0 10", "no"), ("climb(0) 0 10x1; climb(1) 1 15x1; climb(2) 0 30x1", "no"),
        ):
            self.says(desk, f"look least climb(2) {paper}", due)
        self.says(desk, "look leasts climb(2) climb(0) 0 10x1; climb(1) 1 15x1; climb(2) 0 30x1", "yes")
        self.says(desk, "look least climb(0) climb(0) 0 10", "yes")
        desk = self.desk(ODDS)
        self.says(desk, "look least bad(1) bad(1) 0 none", "yes")
        self.says(desk, "look least bad(0) bad(0) 0 !nought", "yes")
        self.says(desk, "look least bad(0) bad(0) 0 !place", "no")
        # Rings and sizes are not asked.
        self.says(desk, "look least ring(0) ", "no")
        self.says(desk, "look least far(300) ", "no")

    def test_look_at_what_is_told(self):
        desk = self.desk(CLIMB, "give costs 3,1,4,1,5,9,2,6,5,3,5")
        given = given_of(read(CLIMB), {"costs": [3, 1, 4, 1, 5, 9, 2, 6, 5, 3, 5]})
        for word in WORDS:
            paper = desk.say(f"paper {word} climb(10)")
            self.says(desk, f"look {word} climb(10) {paper}", "yes")
            self.assertTrue(lets_by(read(CLIMB), given, at(0, 10), word, read_paper(read(CLIMB), paper)))


class Roads(Desks):
    def test_roads(self):
        desk = self.desk(CLIMB, "give costs 10,15,20,5")
        self.says(desk, "road least climb(3)", "climb(3):1; climb(1):")
        self.says(desk, "road greatest climb(3)", "climb(3):0; climb(2):0; climb(1):")
        self.says(desk, "road least climb(0)", "climb(0):")
        desk = self.desk(ODDS)
        self.says(desk, "road least pair(2,9)", "pair(2,9):; pair(1,4):; pair(0,2):0")
        desk = self.desk("fun turn (9) (each -2 1 (choose (none) (both (gain (times b b)) (choose (gain 0)))))")
        self.says(desk, "road greatest turn(4)", "turn(4):-2,1,0")
        self.says(desk, "road least turn(4)", "turn(4):0,1,0")

    def test_none(self):
        self.says(self.desk(ODDS), "road least bad(1)", "none")
        self.says(self.desk(ODDS), "road greatest bad(1)", "none")


TWO = "\n".join([
    "number top",
    "fun pair (top 5) (if (same a 0) (gain b) (call pair (less a 1) (half b)))",
    "fun one (3) (both (call pair 1 a) (call pair a 0))",
])


class Turns(Desks):
    def test_exchange(self):
        desk = self.desk(TWO, "give top 4")
        self.says(desk, "answer least pair(1,4)", "2")
        self.says(desk, "exchange pair 1 0", "ok")
        self.says(desk, "program", "\n".join([
            "number top", "fun pair (5 top) (if (same b 0) (gain a) (call pair (half a) (less b 1)))",
            "fun one (3) (both (call pair a 1) (call pair 0 a))",
        ]))
        self.says(desk, "answer least pair(4,1)", "2")
        self.says(desk, "exchange one 0", "ok")
        self.says(desk, "exchange pair 1 0", "ok")
        self.says(desk, "program", TWO)

    def test_orders_that_are_none(self):
        desk = self.desk(TWO)
        self.refuses(desk, NoTurn, "exchange pair 0", "exchange pair 0 0", "exchange pair 1 1", "exchange pair 0 2", "exchange pair 1 2",
                     "exchange pair 0 1 2", "exchange one 1", "exchange one 0 1", "exchange one 0 0 0 0 0 0 0 0", "exchange pair 10 11")
        self.says(desk, "program", TWO)

    def test_put(self):
        desk = self.desk(TWO, "give top 4")
        self.says(desk, "put one 1", "ok")
        self.says(desk, "program", "\n".join(TWO.split("\n")[:2] + [
            "fun one (3) (both (call pair 1 a) (if (and (not (or (below a 0) (below top a))) (not (or (below 0 0) (below 5 0)))) "
            "(if (same a 0) (gain 0) (call pair (less a 1) (half 0))) (call pair a 0)))",
        ]))
        self.says(desk, "answer least one(3)", "1")
        self.refuses(desk, NoTurn, "put one 3", "put one 4", "put one 99", "put pair 1")

    def test_what_was_given_stays(self):
        desk = self.desk(TWO, "give top 4", "exchange pair 1 0", "put one 0")
        self.says(desk, "answer least pair(4,1)", "2")
        self.says(desk, "answer least pair(5,4)", "0")
        self.refuses(desk, NoCell, "answer least pair(5,5)")


class Back(Desks):
    def test_one_behind_the_other(self):
        desk = self.desk(TWO)
        asks = ("program", "answer least pair(1,4)", "answer sum one(2)", "rooms one(3)")

        def told():
            answers = []
            for row in asks:
                try:
                    answers.append(desk.say(row))
                except RoomError as refusal:
                    answers.append(type(refusal))
            return answers

        rows = ["give top 4", "exchange pair 1 0", "give top 1", "put one 1", "put pair 0", "exchange one 0", "give top 3", "exchange pair 1 0"]
        states = [told()]
        for row in rows:
            self.says(desk, row, "ok")
            states.append(told())
        self.assertGreater(len({repr(state) for state in states}), 5)
        for state in reversed(states[:-1]):
            self.says(desk, "back", "ok")
            self.assertEqual(told(), state)
        self.refuses(desk, NoBack, "back", "back")
        self.assertEqual(told(), states[0])

    def test_nothing_to_be_taken_back(self):
        desk = self.desk(ODDS)
        self.refuses(desk, NoBack, "back")
        for row in ("program", "answer least ring(3)", "ring ring(2)", "rooms ring(3)", "paper sum ring(3)", "look sum ring(3) ", "road least ring(3)"):
            desk.say(row)
            self.refuses(desk, NoBack, "back")

    def test_a_give_taken_back(self):
        desk = self.desk(CLIMB, "give costs 1,2,3", "give costs 7,8,9", "back")
        self.says(desk, "answer least climb(0)", "1")
        self.says(desk, "back", "ok")
        self.refuses(desk, NoGiven, "answer least climb(0)")
        self.refuses(desk, NoBack, "back")
        self.says(desk, "give costs 5", "ok")
        self.says(desk, "answer least climb(0)", "5")

    def test_the_same_given_again_is_a_give(self):
        desk = self.desk(CLIMB, "give costs 1,2,3", "give costs 1,2,3", "exchange climb 0", "back", "back")
        self.says(desk, "answer least climb(0)", "1")
        self.says(desk, "back", "ok")
        self.refuses(desk, NoGiven, "answer least climb(0)")

    def test_behind_a_row_that_was_refused(self):
        desk = self.desk(TWO, "give top 4", "exchange pair 1 0")
        for row in ("give top 01", "give top " + "9" * 31, "give other 1", "exchange pair 0 0", "put one 9", "put one x", "back 1", "answer least pair(9,9)",
                    "exchange pair", "nothing"):
            self.assertRaises(RoomError, desk.say, row)
        self.says(desk, "back", "ok")
        self.says(desk, "program", TWO)
        self.says(desk, "answer least pair(4,4)", "0")
        self.says(desk, "back", "ok")
        self.refuses(desk, NoGiven, "answer least pair(4,4)")
        self.refuses(desk, NoBack, "back")


class Kept(Desks):
    def test_what_is_refused_changes_nothing(self):
        desk = self.desk(KINDS, "give count 5", "give line 1,2", "give word ab", "give knots 0")
        asks = ["program"] + [f"answer least {cell}" for cell in ("total(0)", "nth(0)", "nth(2)", "letter(1)", "letter(2)", "kin(0)", "kin(2)")]
        due = [desk.say(row) for row in asks]
        for row in ("give count 01", "give count " + "9" * 31, "give line 1,x", "give line " + ",".join("1" * 13), "give word abcdefghijklm",
                    "give word A", "give knots 5", "give knots x", "exchange total 1", "put total 0", "give count", "give x 1", "answer x total(0)"):
            self.assertRaises(RoomError, desk.say, row)
            self.assertEqual([desk.say(row) for row in asks], due)

    def test_two_desks(self):
        one, other = self.desk(TWO), self.desk(TWO)
        self.says(one, "give top 4", "ok")
        self.refuses(other, NoGiven, "answer least pair(1,4)")
        self.says(other, "give top 2", "ok")
        self.says(one, "exchange pair 1 0", "ok")
        self.says(other, "program", TWO)
        self.says(other, "put one 0", "ok")
        self.says(one, "answer least pair(4,3)", "0")
        self.refuses(other, NoCell, "answer least pair(4,3)")
        self.says(other, "back", "ok")
        self.says(other, "back", "ok")
        self.refuses(other, NoBack, "back")
        self.says(one, "back", "ok")
        self.says(one, "program", TWO)
        self.says(one, "answer least pair(3,4)", "0")

    def test_asked_again_the_same(self):
        desk = self.desk(CLIMB, "give costs 10,15,20")
        for row in ("answer least climb(2)", "ring climb(2)", "rooms climb(2)", "paper least climb(2)", "road least climb(2)", "program",
                    "look least climb(2) climb(0) 0 10"):
            self.assertEqual(desk.say(row), desk.say(row))


if __name__ == "__main__":
    unittest.main()
