"""Point 28: programs written as texts and read from them."""

import copy
import unittest

from odd_things import ODD
from roomtables.errors import NoProgram, NoText
from roomtables.programs import program_of
from roomtables.reader import read
from roomtables.texts import show
from writing import A, B, C, D, NONE, both, call, choose, each, every, gain, half, less, num, plus, same, times, when

E = ("own", 4)

ALL = program_of(
    (("count", "number"), ("line", "row"), ("word", "text"), ("knots", "tree")),
    (
        ("best", (num(0), ("need", "count"), ("full", ("size", "word"))), when(
            ("or", ("below", A, num(-1)), ("not", ("and", ("same", B, C), ("has", ("need", "count"), num(0))))),
            both(gain(plus(A, less(B, times(C, num(10 ** 29))))), NONE),
            choose(
                each(A, num(-10 ** 29), every(D, half(D), gain(("rest", D, E)))),
                call(1, ("at", "line", A), ("at", "word", B)),
                gain(("lesser", ("greater", A, B), ("many", C))),
                NONE,
            ),
        )),
        ("fun", (plus(("size", "line"), 3), less(("size", "knots"), num(1))), choose(
            call(1, ("kids", "knots", A), ("kid", "knots", A, B)),
            call(0, ("with", A, num(2)), ("without", B, num(12)), ("full", A)),
        )),
        ("abcdefgh", (num(10 ** 30 - 1),), call(2, num(-10 ** 30 + 1))),
    ),
)
ALL_TEXT = "\n".join([
    "number count", "row line", "text word", "tree knots",
    "fun best (0 count (full (size word))) (if (or (below a -1) (not (and (same b c) (has count 0)))) (both (gain (plus a (less b"
    " (times c 100000000000000000000000000000)))) (none)) (choose (each a -100000000000000000000000000000 (all d (half d) (gain"
    " (rest d e)))) (call fun (at line a) (at word b)) (gain (lesser (greater a b) (many c))) (none)))",
    "fun fun ((plus (size line) 3) (less (size knots) 1)) (choose (call fun (kids knots a) (kid knots a b)) (call best (with a 2)"
    " (without b 12) (full a)))",
    "fun abcdefgh (999999999999999999999999999999) (call abcdefgh -999999999999999999999999999999)",
])


def a_function(body, mosts="9"):
    return f"number count\nrow line\nfun best ({mosts}) {body}"


class Texts(unittest.TestCase):
    def refuses(self, text, line):
        with self.assertRaises(NoText, msg=text) as caught:
            read(text)
        self.assertEqual(caught.exception.line, line, text)

    def no_program(self, *texts):
        for text in texts:
            self.assertRaises(NoProgram, read, text)

    def wrong(self, *bodies):
        """Bodies that are not of the form."""
        for body in bodies:
            self.refuses(a_function(body), 2)
            self.refuses(a_function("(gain 1)") + "\n" + "fun other (9) " + body, 3)

    def right(self, text, body):
        """A body that is so written."""
        program = program_of((("count", "number"), ("line", "row")), (("best", (num(9),), body),))
        self.assertEqual(read(a_function(text)), program)
        self.assertEqual(show(program), a_function(text))


class Shown(Texts):
    def test_all_words(self):
        self.assertEqual(show(ALL), ALL_TEXT)
        self.assertEqual(read(ALL_TEXT), ALL)

    def test_tuples_all_through(self):
        stack = [read(ALL_TEXT)]
        while stack:
            thing = stack.pop()
            self.assertIn(type(thing), (tuple, int, str))
            if type(thing) is tuple:
                stack.extend(thing)

    def test_as_the_document_says(self):
        program = program_of((("weights", "row"),), (
            ("best", (num(3), num(4)), both(call(0, less(A, 1), B), choose(gain(0), NONE))),
            ("other", (num(3),), gain(("at", "weights", less(A, 1)))),
        ))
        text = "row weights\nfun best (3 4) (both (call best (less a 1) b) (choose (gain 0) (none)))\nfun other (3) (gain (at weights (less a 1)))"
        self.assertEqual(show(program), text)
        self.assertEqual(read(text), program)

    def test_without_needs(self):
        program = program_of((), (("best", (num(3),), NONE),))
        self.assertEqual(show(program), "fun best (3) (none)")
        self.assertEqual(read("fun best (3) (none)"), program)

    def test_parts(self):
        self.right("(gain 0)", gain(0))
        self.right("(gain -7)", gain(-7))
        self.right("(gain count)", gain(("need", "count")))
        self.right("(gain a)", gain(A))
        self.right("(gain (size line))", gain(("size", "line")))
        self.right("(gain (full 3))", gain(("full", num(3))))
        self.right("(choose (none))", choose(NONE))
        self.right("(each 1 2 (all 3 4 (gain (plus b c))))", each(1, 2, every(3, 4, gain(plus(B, C)))))
        self.right("(if (same a 1) (none) (gain 1))", when(same(A, 1), NONE, gain(1)))
        self.right("(call best (half a))", call(0, half(A)))

    def test_functions_by_their_names(self):
        text = "fun aa (1) (call bb a)\nfun bb (1) (call cc a)\nfun cc (1) (call aa a)"
        program = program_of((), tuple((name, (num(1),), call(g, A)) for name, g in (("aa", 1), ("bb", 2), ("cc", 0))))
        self.assertEqual(read(text), program)
        self.assertEqual(show(program), text)

    def test_numbers_of_thirty_figures(self):
        for text in ("9" * 30, "-" + "9" * 30, "1" + "0" * 29, "0", "-1", "10", "100", "-10", "1" * 29):
            self.right(f"(gain {text})", gain(int(text)))

    def test_names(self):
        for name in ("ab", "zz", "abcdefgh", "fun", "nums", "owns", "yes", "kind", "gains", "fault", "le"):
            program = program_of((), ((name, (num(3),), call(0, A)),))
            self.assertEqual(show(program), f"fun {name} (3) (call {name} a)")
            self.assertEqual(read(show(program)), program)
            program = program_of(((name, "number"),), (("best", (("need", name),), gain(("need", name))),))
            self.assertEqual(show(program), f"number {name}\nfun best ({name}) (gain {name})")
            self.assertEqual(read(show(program)), program)

    def test_nothing_is_changed(self):
        kept = copy.deepcopy(ALL)
        self.assertEqual(show(ALL), show(ALL))
        self.assertEqual(ALL, kept)
        self.assertEqual(read(ALL_TEXT), read(ALL_TEXT))


class Lines(Texts):
    def test_what_is_no_text(self):
        for thing in [one for one in ODD if not isinstance(one, str)] + [b"fun best (3) (none)", ["fun best (3) (none)"], ALL]:
            with self.assertRaises(NoText) as caught:
                read(thing)
            self.assertEqual(caught.exception.line, 0)
        for thing in [one for one in ODD if isinstance(one, str)]:
            self.refuses(thing, 0)

    def test_the_first_line_that_is_not_of_the_form(self):
        lines = ALL_TEXT.split("\n")
        for place in range(len(lines)):
            for more in range(place, len(lines)):
                bent = list(lines)
                bent[place] += " "
                bent[more] += ")"
                self.refuses("\n".join(bent), place)

    def test_empty_lines(self):
        lines = ALL_TEXT.split("\n")
        for place in range(len(lines) + 1):
            self.refuses("\n".join(lines[:place] + [""] + lines[place:]), place)
            self.refuses("\n".join(lines[:place] + [" "] + lines[place:]), place)
        self.refuses("", 0)
        self.refuses("\n", 0)
        self.refuses("fun best (3) (none)\n", 1)
        self.refuses("\nfun best (3) (none)", 0)

    def test_other_line_ends(self):
        for end in ("\r\n", "\r", "\x0b", "\x0c", "\x1c", "\x85", "\u2028", ";", "\n\n"):
            self.assertRaises(NoText, read, f"number count{end}fun best (3) (none)")

    def test_a_need_behind_a_fun_line(self):
        self.refuses("fun best (3) (none)\nnumber count", 1)
        self.refuses("number count\nfun best (3) (none)\nrow line\nfun other (3) (none)", 2)
        self.refuses("fun best (3) (none\nnumber count", 0)

    def test_needs(self):
        for line in (
            "number", "count", "number ", " count", "number  count", " number count", "number count ", "number count count", "Number count",
            "num count", "numbers count", "need count", "own count", "number: count", "number,count", "number\tcount", "number(count)",
            "(number count)", "fun", "funny best", "number best(3)", "rowline", "row", "texts word", "trees knots", "fun\tbest (3) (none)",
        ):
            self.refuses(line, 0)
            self.refuses(line + "\nfun best (3) (none)", 0)
            self.refuses("row line\n" + line + "\nfun best (3) (none)", 1)
            self.refuses("row line\nfun best (3) (none)\n" + line, 2)

    def test_names_that_are_none(self):
        words = (
            "num own need size at kids kid full with without many plus less times half rest lesser greater below same has not and or "
            "gain none call both choose each all if number row text tree"
        ).split()
        for name in words + ["a", "z", "abcdefghi", "abcdefghij", "Count", "COUNT", "counT", "co nt", "coun1", "1", "12", "co-nt", "co_nt", "",
                             "co\u00e9", "\u00e9\u00e9", "-1", "-", "co.", "(co)", "co)", "(co"]:
            self.refuses(f"number {name}\nfun best (3) (none)", 0)
            self.refuses(f"row line\nfun {name} (3) (none)", 1)
            if name not in ("a", "z", "1", "12", "-1", "1", ""):
                self.wrong(f"(gain {name})")
            self.wrong(f"(gain (size {name}))", f"(gain (at {name} 1))", f"(gain (kids {name} 1))", f"(gain (kid {name} 1 2))")

    def test_fun_lines(self):
        for line in (
            "fun", "fun ", "fun best", "fun best ", "fun best (3)", "fun best (3) ", "fun best 3 (none)", "fun best (none)", "fun best (3)(none)",
            "fun best(3) (none)", "fun  best (3) (none)", "fun best  (3) (none)", "fun best (3)  (none)", "fun best (3) (none) ",
            " fun best (3) (none)", "fun best ( 3) (none)", "fun best (3 ) (none)", "fun best (3  4) (none)", "fun best (3,4) (none)",
            "fun best (3) (none))", "fun best (3) (none) (none)", "fun best ((3)) (none)", "fun best (3) none", "fun best (3) ((none))",
            "fun best (3) (none", "fun best (3 (none)", "fun best 3) (none)", "fun best (3) none)", "fun (3) (none)", "fun best ((3) (none)",
            "fun best (3)) (none)", "fun best [3] (none)", "fun best () ()", "fun best ( ) (none)", "Fun best (3) (none)",
            "fun best (3) (none) x", "fun best (3) (none)x", "xfun best (3) (none)",
        ):
            self.refuses(line, 0)
            self.refuses("row line\n" + line, 1)
            self.refuses("fun other (3) (none)\n" + line, 1)


class Parts(Texts):
    def test_blanks(self):
        body = "(if (below a 1) (choose (gain (at line -1)) (none)) (call best (plus a count)))"
        self.right(body, when(("below", A, num(1)), choose(gain(("at", "line", num(-1))), NONE), call(0, plus(A, ("need", "count")))))
        for place in range(len(body)):
            if body[place] == " ":
                self.wrong(body[:place] + body[place + 1:])
            if body[place] in "() " or body[place - 1] in "()":
                self.wrong(body[:place] + " " + body[place:])
        self.wrong(body + " ")

    def test_brackets_too_many_or_too_few(self):
        body = "(if (below a 1) (choose (gain (at line -1)) (none)) (call best (plus a count)))"
        for place in range(len(body)):
            if body[place] in "()":
                self.wrong(body[:place] + body[place + 1:], body[:place] + body[place] * 2 + body[place + 1:])
                self.wrong(body[:place] + "[" + body[place + 1:])
        self.wrong("()", "(())", "(", ")", "", "((gain 1))", "(gain (1))", "(gain (a))", "(gain (count))", "(none)(none)")

    def test_forty_within_one_another(self):
        deep = lambda many: "(gain " + "(half " * many + "1" + ")" * many + ")"
        self.no_program(a_function(deep(11)), a_function(deep(39)))
        read(a_function(deep(10)))
        self.wrong(deep(40), deep(41), deep(400))
        conds = lambda many: "(if " + "(not " * many + "(same 1 1)" + ")" * many + " (none) (none))"
        self.no_program(a_function(conds(38)))
        self.wrong(conds(39), conds(40))
        bodies = lambda many: "(choose " * many + "(none)" + ")" * many
        self.no_program(a_function(bodies(39)))
        self.wrong(bodies(40), bodies(7000 // 2))
        mosts = lambda many: "(half " * many + "1" + ")" * many
        self.no_program(a_function("(none)", mosts(39)))
        self.refuses(a_function("(none)", mosts(40)), 2)
        # Those that stand side by side are not within one another.
        self.right("(choose (both (none) (none)) (both (none) (none)) (none) (none))", choose(both(NONE, NONE), both(NONE, NONE), NONE, NONE))
        self.no_program(a_function("(choose " + " ".join(["(none)"] * 50) + ")"))

    def test_numbers(self):
        for text in (
            "00", "01", "007", "-0", "-00", "-01", "+1", "--1", "-", "1-", "1.0", "1.", ".5", "1e5", "1_0", "0x1", "1a", "a1", "1,0", "'1'", "\"1\"",
            "9" * 31, "-" + "9" * 31, "1" + "0" * 30, "0" * 30, "\u0661", "\u00b2", "\uff11",
        ):
            self.wrong(f"(gain {text})", f"(gain (plus 1 {text}))", f"(call best {text})", f"(if (below {text} 1) (none) (none))")
            self.refuses(a_function("(none)", text), 2)

    def test_any_letter_for_an_own_number(self):
        for letter in "bcdefghijklmnopqrstuvwxyz":
            self.no_program(a_function(f"(gain {letter})"))
        self.no_program(a_function("(none)", "a"), a_function("(none)", "z"))
        self.right("(gain a)", gain(A))
        self.right("(each 1 2 (gain b))", each(1, 2, gain(B)))
        self.wrong("(gain A)", "(gain Z)", "(gain aa1)", "(gain *)", "(gain \u00e9)", "(gain ')", "(gain @)")

    def test_words(self):
        self.wrong(
            "(num 1)", "(gain (num 1))", "(gain (own 0))", "(gain (own a))", "(gain (need count))", "(gain (number count))", "(Gain 1)", "(GAIN 1)",
            "(gains 1)", "(gai 1)", "(gain(half a))", "(gain (Half a))", "(fun 1)", "(best 1)", "( gain 1)", "(gain  1)", "(while 1)", "none", "(none )",
        )

    def test_parts_too_many_or_too_few(self):
        sums = "full 1 with 2 without 2 many 1 plus 2 less 2 times 2 half 1 rest 2 lesser 2 greater 2".split()
        for hole, part, words in (
            ("(gain {})", "1", sums), ("(if {} (none) (none))", "1", "below 2 same 2 has 2".split()),
            ("(if {} (none) (none))", "(same 1 1)", "not 1 and 2 or 2".split()),
        ):
            for word, many in zip(words[::2], words[1::2]):
                for parts in range(5):
                    body = hole.format("(" + " ".join([word] + [part] * parts) + ")")
                    if parts == int(many):
                        read(a_function(body))
                    else:
                        self.wrong(body)
        self.wrong("(gain)", "(gain 1 2)", "(gain 1 1)", "(none 1)", "(none (none))", "(both)", "(both (none))", "(both (none) (none) (none))")
        self.wrong("(each)", "(each 1 2)", "(each 1 (none))", "(each 1 2 (none) (none))", "(each 1 2 3 (none))", "(all 1 2)", "(all 1 2 (none) (none))")
        self.wrong("(if (same 1 1) (none))", "(if (none) (none))", "(if (same 1 1) (none) (none) (none))", "(if)", "(if (same 1 1))")
        self.wrong("(gain (size))", "(gain (size line line))", "(gain (at line))", "(gain (at 1))", "(gain (at line 1 2))", "(gain (at))")
        self.wrong("(gain (kids line))", "(gain (kids line 1 2))", "(gain (kid line 1))", "(gain (kid line 1 2 3))", "(gain (kid 1 2))", "(call)", "(call )")

    def test_what_is_due_there(self):
        some = {
            "sum": ["1", "a", "count", "(size line)", "(plus 1 2)"], "cond": ["(same 1 1)", "(not (same 1 1))"],
            "body": ["(none)", "(gain 1)", "(choose (none))", "(call best 1)"],
        }
        holes = {
            "sum": ["(gain {})", "(gain (half {}))", "(gain (plus 1 {}))", "(if (same {} 1) (none) (none))", "(each {} 2 (none))",
                    "(all 1 {} (none))", "(call best {})", "(gain (at line {}))"],
            "cond": ["(if {} (none) (none))", "(if (not {}) (none) (none))", "(if (and {} (same 1 1)) (none) (none))",
                     "(if (or (same 1 1) {}) (none) (none))"],
            "body": ["{}", "(both {} (none))", "(both (none) {})", "(choose {})", "(choose (none) {})", "(each 1 2 {})", "(all 1 2 {})",
                     "(if (same 1 1) {} (none))", "(if (same 1 1) (none) {})"],
        }
        for due, texts in holes.items():
            for text in texts:
                for kind, parts in some.items():
                    for part in parts:
                        if kind == due:
                            read(a_function(text.format(part)))
                        else:
                            self.wrong(text.format(part))
        for part in some["cond"] + some["body"]:
            self.refuses(a_function("(none)", part), 2)

    def test_a_number_or_a_letter_where_a_need_is_due(self):
        self.wrong("(gain (size 1))", "(gain (size a))", "(gain (size (size line)))", "(gain (at 1 1))", "(gain (kid a 1 1))")

    def test_any_number_of_mosts_args_and_bodies(self):
        self.no_program(
            "fun best () (call best)", "fun best () (none)", "fun best (3) (call best)", "fun best (3) (call best 1 2)",
            "fun best (3) (call best 1 2 3 4 5)", "fun best (3) (choose)", "fun best (1 2 3 4) (none)",
            "fun best (3) (choose (none) (none) (none) (none) (none))",
        )
        self.wrong("(call best )", "(choose )", "(call best  1)")

    def test_signs(self):
        for sign in "!\"#$%&'*+,./:;<=>?@[]^_`{|}~\t\\":
            self.wrong(f"(gain 1){sign}", f"{sign}(gain 1)", f"(gain{sign} 1)", f"(gain 1{sign})", f"(gain {sign})", f"({sign})")


class Calls(Texts):
    def test_of_no_fun_line(self):
        for body in ("(call elder 1)", "(call bes 1)", "(call bestt 1)", "(call Best 1)", "(call 0 1)", "(call count 1)", "(call a 1)",
                     "(call (best) 1)", "(call 1)", "(call (half a))"):
            self.refuses(a_function(body), 2)
            self.refuses(a_function("(none)") + "\nfun other (3) " + body, 3)

    def test_of_a_fun_line_behind(self):
        self.assertEqual(read("fun aa (1) (call bb a)\nfun bb (1) (none)")[1][0][2], call(1, A))
        self.refuses("fun aa (1) (call bb a)\nfun cc (1) (none)", 0)

    def test_of_one_that_is_not_of_the_form_itself(self):
        for other in ("fun bb", "fun bb ", "fun bb 3", "fun bb (1) (gain", "fun bb (x y)", "fun bb  (1) (none)"):
            self.refuses("fun aa (1) (call bb a)\n" + other, 1)
            self.refuses("fun aa (1) (call bb a) \n" + other, 0)
        self.refuses("fun bb (\nfun aa (1) (call bb a)", 0)
        for name in ("x", "Best", "num", "abcdefghijk", "b1", "b_b", "*"):
            self.refuses(f"fun aa (1) (call {name} a)\nfun {name} (1) (none)", 1)
            self.refuses(f"fun aa (1) (call {name} a)\nfun {name}", 1)
            self.refuses(f"fun aa (1) (call {name} a)\nfun cc (1) (none)", 0)

    def test_what_stands_behind_fun_up_to_the_next_blank(self):
        self.refuses("fun aa (1) (call bb a)\nfun bb(1) (none)", 0)
        self.refuses("fun aa (1) (call bb a)\nfun  bb (1) (none)", 0)
        self.refuses("fun aa (1) (call bb a)\n fun bb (1) (none)", 0)
        self.refuses("fun aa (1) (call bb a)\nfunbb (1) (none)", 0)
        self.refuses("fun aa (1) (call bb a)\nfun\tbb (1) (none)", 0)
        # Two blanks: the name has no signs.
        self.refuses("fun aa (1) (call )\nfun  bb (1) (none)", 1)
        self.refuses("fun aa (1) (call )\nfun bb (1) (none)", 0)

    def test_of_one_behind_a_need(self):
        self.refuses("fun aa (1) (call bb a)\nnumber count\nfun bb (1) (none)", 1)

    def test_the_first_one_that_has_it(self):
        self.no_program("fun aa (1) (none)\nfun aa (1) (call aa a)")


class NoPrograms(Texts):
    def test_of_the_form_but_no_program(self):
        self.no_program(
            "number count", "number count\nrow line", "number count\nnumber count\nfun best (3) (none)", "number best\nfun best (3) (none)",
            "fun best (3) (gain count)", "fun best (3) (gain (size line))", "row line\nfun best (3) (gain line)",
            "number count\nfun best (3) (gain (size count))", "row line\nfun best (3) (gain (kids line 1))", "fun best (3) (gain best)",
            "fun best (3) (gain b)", "fun best (-1) (none)", "fun best ((half 3)) (none)", "fun best ((full 3)) (none)", "fun best (a) (none)",
            "fun best (3) (each 1 2 (each 1 2 (each 1 2 (none))))", "\n".join(f"fun aa{x} (3) (none)" for x in "abcde"),
            "\n".join(f"number aa{x}" for x in "abcdefg") + "\nfun best (3) (none)",
        )

    def test_sixty_parts_and_one_more(self):
        read("fun best (3) (gain " + "(plus 1 " * 9 + "1" + ")" * 9 + ")")
        # Four times fourteen parts, and the choose.
        four = "(choose " + " ".join(["(gain (half (plus (plus 1 1) (plus (plus 1 1) (half (plus 1 1))))))"] * 4) + ")"
        read("fun best (3) " + four)
        read(f"fun best (3) (both {four} (gain 1))")
        self.no_program(f"fun best (3) (both {four} (gain (half 1)))")

    def test_behind_no_text_of_whatever_line(self):
        self.refuses("number count\nnumber count\nfun best (3) (gain x) ", 2)
        self.refuses("fun best (3) (gain b)\nfun other (3) (gain 01)", 1)
        self.refuses("fun best () (call best)\nfun other", 1)
        self.refuses("fun best (3) (gain b)\nfun other (3) (none)\n", 2)

    def test_six_needs_and_four_functions(self):
        text = "\n".join([f"number aa{x}" for x in "abcdef"] + [f"fun best{x} (3) (call best{y} a)" for x, y in zip("abcd", "dabc")])
        self.assertEqual(show(read(text)), text)


if __name__ == "__main__":
    unittest.main()
