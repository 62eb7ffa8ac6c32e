"""Points 4, 7 and 8: which needs and functions make a program."""

import unittest

from odd_things import ODD, nested
from roomtables.errors import NoProgram
from roomtables.programs import program_of

N = ("num", 1)
A = ("own", 0)
GAIN = ("gain", N)
NONE = ("none",)
NEEDS = (("count", "number"), ("line", "row"), ("word", "text"), ("knots", "tree"))
BARRED = (
    "num own need size at kids kid full with without many plus less times half rest lesser greater below same has "
    "not and or gain none call both choose each all if number row text tree"
).split()


def fun(name="best", mosts=(N,), body=GAIN):
    return (name, mosts, body)


class Programs(unittest.TestCase):
    def right(self, needs, functions):
        told = program_of(needs, functions)
        self.assertEqual(told, (needs, functions))
        self.assert_tuples(told)

    def assert_tuples(self, thing):
        if isinstance(thing, tuple):
            for part in thing:
                self.assert_tuples(part)
        else:
            self.assertIn(type(thing), (int, str))

    def wrong(self, needs, functions):
        with self.assertRaises(NoProgram, msg=repr((needs, functions))[:200]):
            program_of(needs, functions)

    def right_body(self, body, mosts=(N,), others=()):
        self.right(NEEDS, (fun(mosts=mosts, body=body),) + others)

    def wrong_body(self, body, mosts=(N,), others=()):
        self.wrong(NEEDS, (fun(mosts=mosts, body=body),) + others)

    def right_most(self, most):
        self.right(NEEDS, (fun(mosts=(most,)),))
        self.right(NEEDS, (fun(mosts=(N, N, most)),))

    def wrong_most(self, most):
        self.wrong(NEEDS, (fun(mosts=(most,)),))
        self.wrong(NEEDS, (fun(mosts=(N, N, most)),))
        self.wrong(NEEDS, (fun(), fun("other", mosts=(most, N))))


class Names(Programs):
    def test_right_names(self):
        for name in ("ab", "zz", "best", "abcdefgh", "fun", "place", "great", "least", "nums", "ow", "ask"):
            self.right(((name, "number"),), (fun(),) if name != "best" else (fun("other"),))
            self.right((), (fun(name),))

    def test_barred_words(self):
        self.assertEqual(len(BARRED), 36)
        for name in BARRED:
            self.wrong(((name, "number"),), (fun(),))
            self.wrong((), (fun(name),))

    def test_lengths(self):
        for name in ("", "a", "abcdefghi", "a" * 9, "a" * 30000):
            self.wrong(((name, "number"),), (fun(),))
            self.wrong((), (fun(name),))

    def test_other_signs(self):
        for name in ("aB", "AB", "Best", "a1", "1a", "a b", " ab", "ab ", "a_b", "a-b", "ab\n", "\nab", "a\tb", "a.b",
                     "\u00e4b", "b\u00df", "\u0430\u0431", "a\u0301b", "`a", "a{", "@a"):
            self.wrong(((name, "number"),), (fun(),))
            self.wrong((), (fun(name),))

    def test_odd_names(self):
        for name in ODD + [b"best", ("best",), ["best"], 12]:
            self.wrong(((name, "number"),), (fun(),))
            self.wrong((), (fun(name),))

    def test_names_alike(self):
        self.wrong((("ab", "number"), ("ab", "number")), (fun(),))
        self.wrong((("ab", "number"), ("cd", "row"), ("ab", "text")), (fun(),))
        self.wrong((), (fun("ab"), fun("ab")))
        self.wrong((), (fun("ab"), fun("cd"), fun("ef"), fun("ab", (N, N), NONE)))
        self.wrong((("ab", "number"),), (fun("ab"),))
        self.wrong((("ab", "number"), ("cd", "row")), (fun("ef"), fun("cd")))
        self.right((("ab", "number"), ("cd", "row")), (fun("ef"), fun("gh")))


class Needs(Programs):
    def test_kinds(self):
        for kind in ("number", "row", "text", "tree"):
            self.right((("ab", kind),), (fun(),))
        for kind in ODD + ["rows", "Number", "list", "num", ["row"], ("row",), "numbe", " row"]:
            self.wrong((("ab", kind),), (fun(),))

    def test_how_many(self):
        needs = tuple((name, "number") for name in ("na", "nb", "nc", "nd", "ne", "nf", "ng"))
        for many in range(7):
            self.right(needs[:many], (fun(),))
        self.wrong(needs, (fun(),))

    def test_odd_needs(self):
        for needs in ODD:
            if needs != ():
                self.wrong(needs, (fun(),))
            self.wrong((needs,), (fun(),))
            self.wrong((("ab", "row"), needs), (fun(),))

    def test_lists_for_tuples(self):
        self.wrong([("ab", "row")], (fun(),))
        self.wrong((["ab", "row"],), (fun(),))
        self.wrong([], (fun(),))
        self.wrong({"ab": "row"}, (fun(),))

    def test_one_thing_more_or_less(self):
        self.wrong((("ab",),), (fun(),))
        self.wrong((("ab", "row", "row"),), (fun(),))
        self.wrong((("row", "ab"),), (fun(),))
        self.wrong(("ab", "row"), (fun(),))


class Functions(Programs):
    def test_how_many(self):
        functions = tuple(fun(name) for name in ("fa", "fb", "fc", "fd", "fe"))
        for many in range(1, 5):
            self.right((), functions[:many])
        self.wrong((), ())
        self.wrong((), functions)

    def test_odd_functions(self):
        for functions in ODD:
            self.wrong((), functions)
            self.wrong((), (functions,))
            self.wrong((), (fun(), functions))

    def test_lists_for_tuples(self):
        self.wrong((), [fun()])
        self.wrong((), (list(fun()),))
        self.wrong((), (("best", [N], GAIN),))
        self.wrong((), (("best", (N,), list(GAIN)),))
        self.wrong((), (("best", (list(N),), GAIN),))

    def test_one_thing_more_or_less(self):
        self.wrong((), (fun()[:2],))
        self.wrong((), (fun() + (GAIN,),))
        self.wrong((), fun())
        self.wrong((), (("best", GAIN, (N,)),))

    def test_a_program_told_is_none_of_its_two_things(self):
        program = program_of((), (fun(),))
        self.wrong((), program)
        self.wrong(program, program)

    def test_the_same_again(self):
        program = program_of(NEEDS, (fun(),))
        self.assertEqual(program_of(*program), program)


class Mosts(Programs):
    def test_how_many(self):
        for many in (1, 2, 3):
            self.right((), (fun(mosts=(N,) * many),))
        for many in (0, 4, 5):
            self.wrong((), (fun(mosts=(N,) * many),))

    def test_right_words(self):
        for most in (("num", 0), N, ("num", 10 ** 29), ("need", "count"), ("size", "line"), ("size", "word"),
                     ("size", "knots"), ("full", ("size", "line")), ("full", ("size", "word")), ("full", ("size", "knots")),
                     ("plus", N, ("need", "count")), ("less", ("size", "line"), N), ("less", ("num", 0), N),
                     ("plus", ("full", ("size", "line")), ("less", N, ("plus", N, N)))):
            self.right_most(most)

    def test_numbers_below_0(self):
        for most in (("num", -1), ("num", -10 ** 29), ("plus", ("num", -1), N), ("plus", N, ("num", -1)),
                     ("less", N, ("less", N, ("num", -1)))):
            self.wrong_most(most)

    def test_other_sums(self):
        for most in (A, ("own", 1), ("times", N, N), ("half", N), ("rest", N, N), ("lesser", N, N), ("greater", N, N),
                     ("many", N), ("with", N, N), ("without", N, N), ("at", "line", N), ("kids", "knots", N),
                     ("kid", "knots", N, N), ("full", N), ("full", ("need", "count")), ("full", ("full", ("size", "line"))),
                     ("full", ("plus", ("size", "line"), N))):
            self.wrong_most(most)
            self.wrong_most(("plus", N, most))
            self.wrong_most(("less", most, N))

    def test_needs_that_are_not_there_or_of_another_kind(self):
        for most in (("need", "other"), ("need", "line"), ("size", "count"), ("size", "other"), ("full", ("size", "count")),
                     ("full", ("size", "other")), ("plus", N, ("need", "word"))):
            self.wrong_most(most)
        self.wrong((), (fun(mosts=(("need", "count"),)),))

    def test_no_sums(self):
        for most in ODD + [("same", N, N), GAIN, NONE, ["num", 1], ("num", True), ("num", False)]:
            self.wrong_most(most)
        for mosts in ODD:
            self.wrong((), (fun(mosts=mosts),))

    def test_twelve_parts_and_thirteen(self):
        eleven = N
        for _ in range(5):
            eleven = ("plus", eleven, N)
        self.right_most(eleven)
        full = ("full", ("size", "line"))
        twelve = full
        for _ in range(5):
            twelve = ("less", N, twelve)
        self.right_most(twelve)
        self.right(NEEDS, (fun(mosts=(twelve, twelve, twelve)),))
        self.wrong_most(("plus", eleven, N))
        thirteen = ("plus", full, full)
        for _ in range(4):
            thirteen = ("plus", thirteen, N)
        self.wrong_most(thirteen)


class Bodies(Programs):
    def test_right_words(self):
        for body in (GAIN, NONE, ("call", 0, (A,)), ("both", GAIN, NONE), ("choose", (GAIN,)),
                     ("each", N, A, GAIN), ("all", N, A, ("gain", ("own", 1))), ("if", ("same", A, N), GAIN, NONE)):
            self.right_body(body)

    def test_odd_bodies(self):
        for body in ODD:
            if body == NONE:
                continue
            self.wrong_body(body)
            self.wrong_body(("both", body, GAIN))
            self.wrong_body(("both", GAIN, body))
            self.wrong_body(("choose", body))
            self.wrong_body(("choose", (body,)))
            self.wrong_body(("choose", (GAIN, body)))
            self.wrong_body(("gain", body))
            self.wrong_body(("call", 0, (body,)))
            self.wrong_body(("if", body, GAIN, GAIN))
            self.wrong_body(("if", ("same", N, N), body, GAIN))
            self.wrong_body(("if", ("same", N, N), GAIN, body))
            for word in ("each", "all"):
                self.wrong_body((word, body, N, GAIN))
                self.wrong_body((word, N, body, GAIN))
                self.wrong_body((word, N, N, body))

    def test_one_thing_more_or_less(self):
        for body in (GAIN, NONE, ("call", 0, (A,)), ("both", GAIN, NONE), ("choose", (GAIN,)),
                     ("each", N, A, GAIN), ("all", N, A, GAIN), ("if", ("same", A, N), GAIN, NONE)):
            self.wrong_body(body[:-1])
            for more in (N, GAIN, NONE, None, ()):
                self.wrong_body(body + (more,))
            self.wrong_body(list(body))
            self.wrong_body(("both", list(body), GAIN))

    def test_another_word(self):
        for word in ("", "Gain", "gains", "sum", "num", "half", "not", b"gain", None, 0):
            self.wrong_body((word, N))
            self.wrong_body((word,))
            self.wrong_body((word, GAIN, GAIN))

    def test_sums_and_conditions_are_no_bodies(self):
        for thing in (N, A, ("plus", N, N), ("same", N, N), ("not", ("same", N, N))):
            self.wrong_body(thing)
            self.wrong_body(("both", GAIN, thing))
        self.wrong_body(("gain", GAIN))
        self.wrong_body(("gain", ("same", N, N)))
        self.wrong_body(("if", N, GAIN, GAIN))
        self.wrong_body(("if", GAIN, GAIN, GAIN))

    def test_choose(self):
        for many in (1, 2, 3, 4):
            self.right_body(("choose", (GAIN,) * many))
        for many in (0, 5, 6):
            self.wrong_body(("choose", (GAIN,) * many))
        self.wrong_body(("choose", [GAIN]))
        self.wrong_body(("choose", GAIN))
        self.wrong_body(("choose", GAIN, GAIN))

    def test_sums_with_needs(self):
        self.right_body(("gain", ("need", "count")))
        for one in (("need", "other"), ("need", "line"), ("at", "count", N), ("at", "knots", N), ("kids", "line", N),
                    ("size", "count"), ("size", "other")):
            self.wrong_body(("gain", one))
            self.wrong_body(("call", 0, (one,)))
            self.wrong_body(("if", ("same", N, one), GAIN, GAIN))
            self.wrong_body(("each", N, one, GAIN))
            self.wrong_body(("each", one, N, GAIN))

    def test_truths_for_numbers(self):
        for truth in (True, False):
            self.wrong_body(("gain", ("num", truth)))
            self.wrong_body(("gain", ("own", truth)), (N, N))
            self.wrong_body(("call", truth, (N,)), others=(fun("other"),))
            self.wrong_body(("if", truth, GAIN, GAIN))


class Calls(Programs):
    TWO = fun("two", (N, N))
    THREE = fun("three", (N, N, N))

    def test_functions_that_are_there(self):
        others = (self.TWO, self.THREE)
        self.right_body(("call", 0, (A,)), others=others)
        self.right_body(("call", 1, (A, N)), others=others)
        self.right_body(("call", 2, (A, N, A)), others=others)
        self.right((), (self.TWO, fun(body=("call", 0, (A, N)))))

    def test_functions_that_are_not(self):
        for g in (-1, 1, 2, 4, -2, 10 ** 29, None, "best", "0", (0,), [0], True, False):
            self.wrong_body(("call", g, (A,)))
        for g in (3, 4, -1, -3):
            self.wrong_body(("call", g, (A,)), others=(self.TWO, self.THREE))
            self.wrong_body(("call", g, (A, A, A)), others=(self.TWO, self.THREE))

    def test_how_many_args(self):
        for g, many in ((0, 1), (1, 2), (2, 3)):
            for count in range(6):
                body = ("call", g, (A,) * count)
                if count == many:
                    self.right_body(body, others=(self.TWO, self.THREE))
                else:
                    self.wrong_body(body, others=(self.TWO, self.THREE))

    def test_odd_args(self):
        for args in ODD:
            self.wrong_body(("call", 0, args))
        self.wrong_body(("call", 0, [A]))
        self.wrong_body(("call", 0, A))
        self.wrong_body(("call", 0, (GAIN,)))
        self.wrong_body(("call", 0, (("same", N, N),)))
        self.wrong_body(("call", 0, (("own", 1),)))


class OwnNumbers(Programs):
    def test_by_mosts(self):
        for many in (1, 2, 3):
            for k in range(-2, 6):
                body = ("gain", ("own", k))
                if 0 <= k < many:
                    self.right_body(body, (N,) * many)
                else:
                    self.wrong_body(body, (N,) * many)

    def test_by_each_function_of_its_own(self):
        self.right((), (fun("fa", (N, N), ("gain", ("own", 1))), fun("fb", (N,), ("gain", ("own", 0)))))
        self.wrong((), (fun("fa", (N, N), ("gain", ("own", 1))), fun("fb", (N,), ("gain", ("own", 1)))))

    def test_of_turns(self):
        for word in ("each", "all"):
            for many in (1, 2, 3):
                mosts = (N,) * many
                turn, next_one, beyond = ("own", many), ("own", many + 1), ("own", many + 2)
                self.right_body((word, N, N, ("gain", turn)), mosts)
                self.right_body((word, N, N, ("call", 0, (turn,) * many)), mosts)
                self.right_body((word, N, N, ("if", ("same", turn, N), GAIN, GAIN)), mosts)
                self.wrong_body((word, N, N, ("gain", next_one)), mosts)
                self.wrong_body((word, turn, N, GAIN), mosts)
                self.wrong_body((word, N, turn, GAIN), mosts)
                self.wrong_body(("both", (word, N, N, GAIN), ("gain", turn)), mosts)
                self.wrong_body(("both", ("gain", turn), (word, N, N, GAIN)), mosts)
                self.wrong_body(("both", (word, N, N, ("gain", turn)), (word, N, N, ("gain", next_one))), mosts)
                self.right_body((word, N, N, ("all", turn, turn, ("gain", next_one))), mosts)
                self.right_body((word, N, N, ("each", turn, turn, ("gain", ("plus", turn, next_one)))), mosts)
                self.wrong_body((word, N, N, ("all", next_one, N, GAIN)), mosts)
                self.wrong_body((word, N, N, ("all", N, next_one, GAIN)), mosts)
                self.wrong_body((word, N, N, ("all", N, N, ("gain", beyond))), mosts)
                self.wrong_body((word, N, N, ("both", ("all", N, N, GAIN), ("gain", next_one))), mosts)

    def test_a_turn_within_two_others(self):
        for first in ("each", "all"):
            for second in ("each", "all"):
                two = (first, N, N, (second, N, N, GAIN))
                self.right_body(two)
                self.right_body(("both", two, two))
                self.right_body((first, N, N, ("both", (second, N, N, GAIN), (second, N, N, GAIN))))
                for third in ("each", "all"):
                    self.wrong_body((third, N, N, two))
                    self.wrong_body((third, N, N, ("both", GAIN, two)))
                    self.wrong_body((first, N, N, (second, N, N, ("choose", (GAIN, (third, N, N, GAIN))))))
                    self.wrong_body((first, N, N, (second, N, N, ("if", ("same", N, N), GAIN, (third, N, N, GAIN)))))


def half_chain(parts):
    """A sum of so many parts, each within another."""
    one = N
    for _ in range(parts - 1):
        one = ("half", one)
    return one


def balanced(parts):
    """A sum of so many parts, as flat as can be."""
    if parts == 1:
        return N
    if parts == 2:
        return ("half", N)
    left = (parts - 1) // 2
    return ("plus", balanced(left), balanced(parts - 1 - left))


class Sizes(Programs):
    def test_sixty_parts_and_sixty_one(self):
        self.right_body(("gain", balanced(59)))
        self.wrong_body(("gain", balanced(60)))
        self.right_body(("gain", balanced(58)))

    def test_each_kind_of_part_counts(self):
        cond = ("same", N, balanced(20))
        right = ("if", ("not", cond), ("gain", balanced(20)), ("call", 0, (balanced(14),)))
        self.right_body(right)
        more = ("if", ("not", cond), ("gain", balanced(20)), ("call", 0, (balanced(15),)))
        self.wrong_body(more)
        self.wrong_body(("if", ("not", ("not", cond)), ("gain", balanced(20)), ("call", 0, (balanced(14),))))
        for word in ("each", "all"):
            self.right_body((word, balanced(20), balanced(20), ("choose", (("gain", balanced(15)), NONE, NONE))))
            self.wrong_body((word, balanced(20), balanced(20), ("choose", (("gain", balanced(15)), NONE, NONE, NONE))))
            self.wrong_body((word, balanced(20), balanced(21), ("choose", (("gain", balanced(15)), NONE, NONE))))
        self.right_body(("both", ("gain", balanced(28)), ("gain", balanced(29))))
        self.wrong_body(("both", ("gain", balanced(29)), ("gain", balanced(29))))

    def test_words_with_needs_count_once(self):
        one = ("at", "line", ("kid", "knots", ("size", "word"), ("need", "count")))
        self.right_body(("both", ("gain", one), ("gain", balanced(53))))
        self.wrong_body(("both", ("gain", one), ("gain", balanced(54))))

    def test_mosts_are_no_parts_of_a_body(self):
        self.right_body(("gain", balanced(59)), (("plus", N, N),) * 3)

    def test_each_body_by_itself(self):
        body = ("gain", balanced(59))
        self.right(NEEDS, tuple(fun(name, body=body) for name in ("fa", "fb", "fc", "fd")))
        self.wrong(NEEDS, (fun("fa", body=body), fun("fb", body=("gain", balanced(60)))))

    def test_twelve_deep_and_thirteen(self):
        self.right_body(("gain", half_chain(11)))
        self.wrong_body(("gain", half_chain(12)))
        self.right_body(("call", 0, (half_chain(11),)))
        self.wrong_body(("call", 0, (half_chain(12),)))
        self.right_body(("if", ("same", half_chain(10), N), GAIN, GAIN))
        self.wrong_body(("if", ("same", half_chain(11), N), GAIN, GAIN))
        self.right_body(("each", N, half_chain(11), GAIN))
        self.wrong_body(("each", N, half_chain(12), GAIN))
        self.right_body(("all", half_chain(11), N, GAIN))
        self.wrong_body(("all", half_chain(12), N, GAIN))

    def test_bodies_twelve_deep_and_thirteen(self):
        for inner, deep in ((NONE, 1), (GAIN, 2), (("call", 0, (A,)), 2)):
            for wrap in (lambda b: ("both", b, NONE), lambda b: ("both", NONE, b), lambda b: ("choose", (NONE, b)),
                         lambda b: ("choose", (b,))):
                self.twelve_deep(inner, deep, wrap)
        for wrap in (lambda b: ("if", ("same", N, N), b, NONE), lambda b: ("if", ("same", N, N), NONE, b)):
            self.twelve_deep(GAIN, 2, wrap)
        self.twelve_deep(("each", N, N, ("all", N, N, NONE)), 3, lambda b: ("both", b, GAIN))

    def twelve_deep(self, body, deep, wrap):
        for _ in range(12 - deep):
            body = wrap(body)
        self.right_body(body)
        self.wrong_body(wrap(body))

    def test_conditions_twelve_deep_and_thirteen(self):
        cond = ("same", N, N)
        for _ in range(9):
            cond = ("not", cond)
        self.right_body(("if", cond, NONE, NONE))
        self.wrong_body(("if", ("not", cond), NONE, NONE))

    def test_far_beyond(self):
        body = GAIN
        for _ in range(55):
            body = ("both", body, NONE)
        self.wrong_body(body)
        self.wrong_body(("gain", half_chain(58)))
        self.wrong_body(nested(58, GAIN))
        body = GAIN
        for _ in range(13):
            body = ("both", body, body)
        self.wrong_body(body)


if __name__ == "__main__":
    unittest.main()
