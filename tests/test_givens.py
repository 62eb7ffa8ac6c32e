"""Points 9 and 4: which dicts are givens."""

import copy
import unittest

from odd_things import ODD
from roomtables.errors import NoGiven
from roomtables.givens import given_of
from roomtables.programs import program_of

BODY = ("gain", ("num", 1))
KINDS = ("number", "row", "text", "tree")


def program(*needs):
    return program_of(tuple(needs), (("best", (("num", 1),), BODY),))


FOUR = program(("count", "number"), ("line", "row"), ("word", "text"), ("knots", "tree"))


def things(**changed):
    told = {"count": 4, "line": [1, -2, 3], "word": "abz", "knots": (0, 0, 1)}
    told.update(changed)
    return told


class Givens(unittest.TestCase):
    def right(self, of, handed):
        told = given_of(of, handed)
        self.assertEqual(told, handed)
        self.assertIs(type(told), dict)
        for name in told:
            self.assertIs(type(told[name]), type(handed[name]))
        return told

    def wrong(self, of, handed):
        with self.assertRaises(NoGiven, msg=repr(handed)[:200]):
            given_of(of, handed)


class Kinds(Givens):
    def test_one_of_each(self):
        self.right(FOUR, things())
        self.right(program(("count", "number")), {"count": -3})
        self.right(program(("line", "row")), {"line": [5]})
        self.right(program(("word", "text")), {"word": "q"})
        self.right(program(("knots", "tree")), {"knots": (0,)})

    def test_numbers(self):
        for count in (0, 1, -1, 10 ** 29, -10 ** 29):
            self.right(FOUR, things(count=count))
        for count in (True, False, None, "1", "", b"1", [1], (1,), {}, set(), ("num", 1)):
            self.wrong(FOUR, things(count=count))

    def test_rows(self):
        for many in (0, 1, 11, 12):
            self.right(FOUR, things(line=[many - 5] * many))
        for many in (13, 14, 60):
            self.wrong(FOUR, things(line=[1] * many))
        self.right(FOUR, things(line=[0, -1, 10 ** 29, -10 ** 29]))
        for bad in (True, False, "1", None, [1], (1,), b"", ("num", 1)):
            for line in ([bad], [1, bad], [bad, 1], [1] * 11 + [bad]):
                self.wrong(FOUR, things(line=line))
        for line in ((), (1, 2), (1,), "12", "", {}, {1: 2}, {1, 2}, 1, None, b"ab", range(3)):
            self.wrong(FOUR, things(line=line))

    def test_texts(self):
        for word in ("", "a", "z", "abcdefghijkl", "mnopqrstuvwx", "zyx", "num", "a" * 12):
            self.right(FOUR, things(word=word))
        for word in ("a" * 13, "a" * 30000, "A", "aB", "a b", " ", "a ", " a", "a1", "1", "a\n", "\n", "a-", "`", "{",
                     "\u00e4", "\u00df", "\u0430"):
            self.wrong(FOUR, things(word=word))
        for word in (None, 1, True, b"ab", ["a"], ("a", "b"), [], (), {"a": "b"}):
            self.wrong(FOUR, things(word=word))

    def test_trees(self):
        for knots in ((), (0,), (0, 0), (0, 1), (0, 1, 2), (0,) * 11, tuple(range(11)), (0, 0, 2, 1, 4)):
            self.right(FOUR, things(knots=knots))
        for knots in ((0,) * 12, tuple(range(12)), (0,) * 60):
            self.wrong(FOUR, things(knots=knots))

    def test_parents(self):
        for at in range(11):
            for parent in range(-3, 15):
                knots = (0,) * at + (parent,)
                if 0 <= parent <= at:
                    self.right(FOUR, things(knots=knots))
                else:
                    self.wrong(FOUR, things(knots=knots))
                knots = knots + (0,) * (10 - at)
                if 0 <= parent <= at:
                    self.right(FOUR, things(knots=knots))
                else:
                    self.wrong(FOUR, things(knots=knots))
        for bad in (True, False, None, "0", (0,), [0], b"", 10 ** 29, -10 ** 29):
            self.wrong(FOUR, things(knots=(0, bad)))
            self.wrong(FOUR, things(knots=(bad,)))
        for knots in ([], [0], [0, 1], None, 0, "", "ab", {}, {0}, b""):
            self.wrong(FOUR, things(knots=knots))

    def test_odd_things(self):
        for kind in KINDS:
            of = program(("it", kind))
            for odd in ODD:
                fine = {
                    "number": isinstance(odd, int) and not isinstance(odd, bool),
                    "row": odd == [],
                    "text": isinstance(odd, str) and odd in ("", "num", "none", "at"),
                    "tree": isinstance(odd, tuple) and odd in ((), (0,), (0, 0, 0)),
                }
                if fine[kind]:
                    self.right(of, {"it": odd})
                else:
                    self.wrong(of, {"it": odd})

    def test_things_of_the_other_kinds(self):
        of_kinds = {"number": 3, "row": [3], "text": "c", "tree": (0, 1)}
        for kind in KINDS:
            for other in KINDS:
                if kind == other:
                    self.right(program(("it", kind)), {"it": of_kinds[other]})
                else:
                    self.wrong(program(("it", kind)), {"it": of_kinds[other]})


class Names(Givens):
    def test_none_to_six(self):
        names = ("na", "nb", "nc", "nd", "ne", "nf")
        for many in range(7):
            of = program(*[(name, "number") for name in names[:many]])
            self.right(of, {name: at for at, name in enumerate(names[:many])})
            for other in range(7):
                if other != many:
                    self.wrong(of, {name: 1 for name in names[:other]})

    def test_in_another_order(self):
        handed = things()
        turned = {name: handed[name] for name in reversed(list(handed))}
        self.right(FOUR, turned)
        self.assertEqual(given_of(FOUR, turned), given_of(FOUR, handed))

    def test_one_more_or_fewer(self):
        for name in ("count", "line", "word", "knots"):
            fewer = things()
            del fewer[name]
            self.wrong(FOUR, fewer)
            fewer["other"] = 1
            self.wrong(FOUR, fewer)
            fewer[None] = 1
            self.wrong(FOUR, fewer)
            renamed = things()
            renamed[name.upper()] = renamed.pop(name)
            self.wrong(FOUR, renamed)
        for extra in ("other", "", None, 0, True, ("count",), b"count", "count "):
            more = things()
            more[extra] = 1
            self.wrong(FOUR, more)
        self.wrong(program(), {"count": 1})
        self.wrong(program(), {None: None})

    def test_no_dict_at_all(self):
        for odd in ODD + [list(things().items()), tuple(things().items()), list(things()), "count", [], (), set(things())]:
            self.wrong(FOUR, odd)
            if odd != {} or not isinstance(odd, dict):
                self.wrong(program(), odd)
        self.assertEqual(given_of(program(), {}), {})


class Copies(Givens):
    def test_what_is_handed_in_stays(self):
        handed = things()
        kept = copy.deepcopy(handed)
        given_of(FOUR, handed)
        self.assertEqual(handed, kept)
        for changed in ({"count": True}, {"line": [1, "x"]}, {"word": "A"}, {"knots": (3,)}):
            handed = things(**changed)
            kept = copy.deepcopy(handed)
            self.wrong(FOUR, handed)
            self.assertEqual(handed, kept)

    def test_changes_behind_it_change_nothing(self):
        handed = things()
        told = given_of(FOUR, handed)
        handed["line"].append(9)
        handed["line"][0] = 77
        handed["count"] = 5
        handed["more"] = 1
        del handed["word"]
        self.assertEqual(told, things())

    def test_changes_of_what_is_told_change_nothing(self):
        handed = things()
        told = given_of(FOUR, handed)
        told["line"].append(9)
        told["count"] = 5
        self.assertEqual(handed, things())
        self.assertEqual(given_of(FOUR, handed), things())

    def test_a_given_is_taken_again(self):
        told = given_of(FOUR, things())
        again = given_of(FOUR, told)
        self.assertEqual(again, told)
        again["line"].append(1)
        self.assertEqual(told, things())


if __name__ == "__main__":
    unittest.main()
