"""Points 26 and 27: a call put in place."""

import copy
import unittest

import oracle
from odd_things import ODD, nested
from roomtables.errors import NoTurn, TooGreat
from roomtables.orders import wanted
from roomtables.placed import placed
from roomtables.programs import program_of
from roomtables.tables import answer
from roomtables.words import WORDS
from writing import A, B, C, D, NONE, at, below, both, call, choose, each, every, gain, half, less, num, plus, same, times, when

E = ("own", 4)


def program(*functions, needs=()):
    """A program of functions, each its mosts and its body."""
    return program_of(needs, tuple((name, *one) for name, one in zip(("fa", "fb", "fc", "fd"), functions)))


def there(one, most):
    return ("not", ("or", ("below", one, num(0)), ("below", most, one)))


class ByHand(unittest.TestCase):
    def body(self, told, f):
        return told[1][f][2]

    def test_one_arg(self):
        one = program(((num(9),), call(1, plus(A, 2))), ((less(5, 1),), gain(times(A, A))))
        told = placed(one, 0, 0)
        arg = plus(A, 2)
        self.assertEqual(self.body(told, 0), (
            "if", ("not", ("or", ("below", arg, num(0)), ("below", less(5, 1), arg))), gain(times(arg, arg)), call(1, arg),
        ))
        self.assertEqual(told[1][0][:2], one[1][0][:2])
        self.assertEqual(told[1][1], one[1][1])
        self.assertEqual(told[0], ())

    def test_two_args(self):
        one = program(((num(9),), call(1, A, half(A))), ((num(5), num(6)), gain(less(B, A))))
        self.assertEqual(self.body(placed(one, 0, 0), 0), when(
            ("and", there(A, num(5)), there(half(A), num(6))), gain(less(half(A), A)), call(1, A, half(A)),
        ))

    def test_three_args(self):
        one = program(((num(9),), call(1, A, 3, 4)), ((num(5), num(6), num(7)), gain(plus(B, plus(A, C)))))
        self.assertEqual(self.body(placed(one, 0, 0), 0), when(
            ("and", there(A, num(5)), ("and", there(num(3), num(6)), there(num(4), num(7)))),
            gain(plus(3, plus(A, 4))), call(1, A, 3, 4),
        ))

    def test_mosts_as_they_are_written(self):
        needs = (("line", "row"), ("word", "text"), ("count", "number"))
        mosts = (("full", ("size", "word")), less(("size", "line"), ("need", "count")))
        one = program(((num(9),), call(1, A, 1)), (mosts, gain(("at", "line", A))), needs=needs)
        self.assertEqual(self.body(placed(one, 0, 0), 0), when(
            ("and", there(A, mosts[0]), there(num(1), mosts[1])), gain(("at", "line", A)), call(1, A, 1),
        ))

    def test_a_call_of_itself(self):
        body = when(below(A, 1), gain(1), both(call(0, less(A, 1)), gain(A)))
        one = program(((num(9),), body))
        arg = less(A, 1)
        due = when(below(A, 1), gain(1), both(when(
            there(arg, num(9)), when(below(arg, 1), gain(1), both(call(0, less(arg, 1)), gain(arg))), call(0, arg),
        ), gain(A)))
        self.assertEqual(self.body(placed(one, 0, 0), 0), due)

    def test_the_called_body_as_it_was(self):
        """Calls within the called body stay calls, of the call's own function too."""
        one = program(((num(9),), both(call(1, A), gain(2))), ((num(9),), choose(call(0, half(A)), call(1, A))))
        self.assertEqual(self.body(placed(one, 0, 0), 0), both(
            when(there(A, num(9)), choose(call(0, half(A)), call(1, A)), call(1, A)), gain(2),
        ))

    def test_all_other_calls_as_they_were(self):
        body = choose(call(1, 1), both(call(0, 2), call(1, 3)), when(same(A, 1), call(1, 4), each(1, 2, call(1, B))))
        one = program(((num(9),), body), ((num(7),), gain(A)))
        put = lambda arg: when(there(arg, num(7)), gain(arg), call(1, arg))
        first, second, third = body[1]
        for n, due in (
            (0, choose(put(num(1)), second, third)),
            (2, choose(first, both(call(0, 2), put(num(3))), third)),
            (3, choose(first, second, when(same(A, 1), put(num(4)), third[3]))),
            (4, choose(first, second, when(same(A, 1), call(1, 4), each(1, 2, put(B))))),
        ):
            told = placed(one, 0, n)
            self.assertEqual(self.body(told, 0), due, n)
            self.assertEqual(told[1][1], one[1][1])
        self.assertEqual(self.body(placed(one, 0, 1), 0)[1][1][1][:2], ("if", there(num(2), num(9))))

    def test_turns_behind_those_that_are_there(self):
        inner = every(A, B, both(gain(C), gain(times(A, B))))
        one = program(((num(9),), each(1, A, call(1, B, A))), ((num(5), num(6)), inner))
        # B is the turn where the call stands, so the turn of the called body becomes C.
        self.assertEqual(self.body(placed(one, 0, 0), 0), each(1, A, when(
            ("and", there(B, num(5)), there(A, num(6))), every(B, A, both(gain(C), gain(times(B, A)))), call(1, B, A),
        )))
        one = program(((num(9), num(9), num(9)), call(1, C)), ((num(5),), each(1, A, each(B, A, gain(plus(B, C))))))
        self.assertEqual(self.body(placed(one, 0, 0), 0), when(
            there(C, num(5)), each(1, C, each(D, C, gain(plus(D, E)))), call(1, C),
        ))
        one = program(((num(5),), call(1, A, 1, 2)), ((num(5), num(5), num(5)), each(1, A, each(D, B, gain(plus(D, E))))))
        self.assertEqual(self.body(placed(one, 0, 0), 0)[2], each(1, A, each(B, 1, gain(plus(B, C)))))

    def test_in_an_all_and_beside_other_bodies(self):
        inner = each(A, 3, gain(plus(A, B)))
        for around, own in (
            (lambda body: every(1, 2, body), C), (lambda body: each(1, 2, body), C), (lambda body: every(1, 2, both(gain(B), body)), C),
            (lambda body: choose(NONE, body), B), (lambda body: when(same(A, 1), NONE, body), B), (lambda body: both(gain(1), both(body, NONE)), B),
        ):
            one = program(((num(9),), around(call(1, half(A)))), ((num(5),), inner))
            put = when(there(half(A), num(5)), each(half(A), 3, gain(plus(half(A), own))), call(1, half(A)))
            self.assertEqual(self.body(placed(one, 0, 0), 0), around(put))

    def test_a_call_within_two_turns(self):
        one = program(((num(9),), each(1, 2, every(B, 3, call(1, plus(B, C))))), ((num(5),), gain(A)))
        arg = plus(B, C)
        self.assertEqual(self.body(placed(one, 0, 0), 0), each(1, 2, every(B, 3, when(there(arg, num(5)), gain(arg), call(1, arg)))))

    def test_behind_a_turn(self):
        """What stands beside a turn does not have it."""
        one = program(((num(9),), both(each(1, 2, gain(B)), call(1, A))), ((num(5),), each(A, 3, gain(B))))
        self.assertEqual(self.body(placed(one, 0, 0), 0)[2][2], each(A, 3, gain(B)))

    def test_the_last_function(self):
        one = program(((num(9),), call(2, 1)), ((num(9),), gain(1)), ((num(9),), call(0, 4)))
        told = placed(one, 2, 0)
        self.assertEqual(told[1][:2], one[1][:2])
        self.assertEqual(told[1][2], ("fc", (num(9),), when(there(num(4), num(9)), call(2, 1), call(0, 4))))

    def test_again_and_again(self):
        one = program(((num(9),), both(call(1, A), call(1, half(A)))), ((num(9),), gain(A)))
        told = placed(placed(one, 0, 1), 0, 0)
        put = lambda arg: when(there(arg, num(9)), gain(arg), call(1, arg))
        self.assertEqual(self.body(told, 0), both(put(A), put(half(A))))
        # The call that is kept in the if is a call as others are.
        self.assertEqual(self.body(placed(placed(one, 0, 0), 0, 0), 0)[1], when(there(A, num(9)), gain(A), put(A)))

    def test_tuples_all_through(self):
        one = program(((num(9),), choose(call(1, A, 3), NONE)), ((num(5), num(6)), choose(gain(B), each(A, B, gain(C)))))
        stack = [placed(one, 0, 0)]
        while stack:
            thing = stack.pop()
            self.assertIn(type(thing), (tuple, int, str))
            if type(thing) is tuple:
                stack.extend(thing)


class Refused(unittest.TestCase):
    ONE = program(((num(9),), both(call(1, A), call(0, half(A)))), ((num(9),), gain(A)))

    def test_no_such_function_or_call(self):
        for f, n in ((2, 0), (-1, 0), (0, 2), (0, -1), (0, -2), (1, 0), (1, -1), (10 ** 29, 0), (0, 10 ** 29), (-2, 0), (-2, -2)):
            self.assertRaises(NoTurn, placed, self.ONE, f, n)

    def test_a_truth_for_0_or_1(self):
        for f, n in ((False, 0), (0, False), (0, True), (False, True), (False, False)):
            self.assertRaises(NoTurn, placed, self.ONE, f, n)
        for n in (0, 1):
            placed(self.ONE, 0, n)

    def test_whatever_it_is(self):
        for thing in [one for one in ODD if type(one) is not int] + ["0", "fa", b"0", (0,), [0], {0: 0}, nested(50, 0), 10 ** 29]:
            self.assertRaises(NoTurn, placed, self.ONE, thing, 0)
            self.assertRaises(NoTurn, placed, self.ONE, 0, thing)
            self.assertRaises(NoTurn, placed, self.ONE, thing, thing)

    def a_sum(self, parts):
        """A sum of so many parts that isn't deep."""
        if parts < 3:
            return num(1) if parts == 1 else half(1)
        return plus(self.a_sum((parts - 1) // 2), self.a_sum(parts - 1 - (parts - 1) // 2))

    def test_sixty_parts_and_one_more(self):
        for args in (1, 2, 3):
            for inner in (gain(1), gain(A), gain(plus(A, A)), gain(times(plus(A, A), A))):
                for parts in range(1, 57 - 2 * args):
                    body = both(gain(self.a_sum(parts)), call(1, *[half(A)] * args))
                    one = program(((num(9),), body), ((less(10, 1),) * args, inner))
                    # The both and the gain; the if; for each arg the not, the or, two belows, the 0, the most of three parts
                    # and the arg of two parts twice; the ands; the inner body, with the arg for the own number; the call.
                    many = 2 + parts + 1 + 12 * args + (args - 1) + oracle.size_of(inner)[0] + repr(inner).count("own") + 1 + 2 * args
                    if many <= 60:
                        self.assertEqual(oracle.size_of(placed(one, 0, 0)[1][0][2])[0], many)
                    else:
                        self.assertRaises(NoTurn, placed, one, 0, 0)

    def test_exactly_sixty(self):
        one = lambda parts: program(((num(9),), both(gain(self.a_sum(parts)), call(1, A))), ((num(9),), gain(A)))
        self.assertEqual(oracle.size_of(placed(one(45), 0, 0)[1][0][2])[0], 60)
        self.assertRaises(NoTurn, placed, one(46), 0, 0)

    def test_twelve_deep_and_one_more(self):
        for deep in range(1, 12):
            body = call(1, A)
            for _ in range(deep - 1):
                body = both(gain(1), body)
            one = program(((num(9),), body), ((num(9),), gain(A)))
            # The if stands where the call stood, deep deep, and the own number in its condition five deeper.
            if deep + 4 <= 12:
                placed(one, 0, 0)
            else:
                self.assertRaises(NoTurn, placed, one, 0, 0)

    def test_deep_by_the_called_body(self):
        inner = A
        for deep in range(1, 12):
            one = program(((num(9),), call(1, A)), ((num(9),), gain(inner)))
            # The if, then the gain, then so many.
            if deep + 2 <= 12:
                placed(one, 0, 0)
            else:
                self.assertRaises(NoTurn, placed, one, 0, 0)
            inner = half(inner)

    def test_deep_by_the_args(self):
        for deep in range(1, 11):
            arg = A
            for _ in range(deep - 1):
                arg = half(arg)
            one = program(((num(9),), call(1, arg)), ((num(9),), gain(half(half(A)))))
            # The if, the not, the or, the below, the arg; or the if, the gain, two halves, the arg.
            if deep + 4 <= 12:
                placed(one, 0, 0)
            else:
                self.assertRaises(NoTurn, placed, one, 0, 0)

    def test_two_turns_and_three(self):
        bodies = [gain(1), each(0, 1, gain(B)), each(0, 1, every(0, 1, gain(C)))]
        around = [lambda body: body, lambda body: each(0, 1, body), lambda body: each(0, 1, every(0, 1, body))]
        for outer, put in enumerate(around):
            for inner, body in enumerate(bodies):
                one = program(((num(9),), both(gain(1), put(call(1, A)))), ((num(9),), body))
                if outer + inner <= 2:
                    placed(one, 0, 0)
                else:
                    self.assertRaises(NoTurn, placed, one, 0, 0)

    def test_turns_beside_one_another(self):
        two = each(0, 1, every(0, 1, gain(C)))
        one = program(((num(9),), both(two, call(1, A))), ((num(9),), both(two[:3] + (("gain", B),), gain(A))))
        placed(one, 0, 0)

    def test_the_program_stays(self):
        kept = copy.deepcopy(self.ONE)
        first = placed(self.ONE, 0, 0)
        self.assertRaises(NoTurn, placed, self.ONE, 0, 2)
        self.assertEqual(self.ONE, kept)
        self.assertEqual(placed(self.ONE, 0, 0), first)


class Answers(unittest.TestCase):
    def alike(self, one, f, n):
        turned = placed(one, f, n)
        for g, (_, mosts, _) in enumerate(one[1]):
            for arg in range(mosts[0][1] + 1):
                for word in WORDS:
                    self.assertEqual(answer(turned, {}, at(g, arg), word), answer(one, {}, at(g, arg), word))
                self.assertTrue(set(wanted(turned, {}, at(g, arg))) <= set(wanted(one, {}, at(g, arg))))

    def test_a_call_of_itself(self):
        one = program(((num(9),), when(below(A, 2), gain(A), both(choose(call(0, less(A, 1)), gain(3)), call(0, less(A, 2))))))
        for n in range(2):
            self.alike(one, 0, n)

    def test_beyond(self):
        one = program(((num(9),), both(gain(1), call(1, less(A, 2)))), ((num(4),), gain(times(A, A))))
        self.assertEqual([answer(one, {}, at(0, arg), "least") for arg in (0, 1, 2, 6, 7)], ["beyond", "beyond", 1, 17, "beyond"])
        self.alike(one, 0, 0)

    def test_faults_of_args(self):
        body = both(call(1, A, ("rest", A, less(A, 3))), gain(1))
        one = program(((num(6),), body), ((num(4), num(5)), gain(plus(A, B))))
        turned = placed(one, 0, 0)
        due = ["nought"] * 4 + [5, "beyond", "beyond"]
        for told in (one, turned):
            self.assertEqual([answer(told, {}, at(0, arg), "least") for arg in range(7)], due)

    def test_fewer_cells(self):
        one = program(((num(9),), when(same(A, 0), gain(1), call(1, less(A, 1)))), ((num(9),), call(0, A)))
        self.assertEqual(len(wanted(one, {}, at(0, 9))), 19)
        self.assertEqual(len(wanted(placed(one, 0, 0), {}, at(0, 9))), 10)
        self.alike(one, 0, 0)

    def test_too_great_of_the_first_one_alone(self):
        one = program(((num(150),), when(same(A, 0), gain(1), call(1, less(A, 1)))), ((num(150),), call(0, A)))
        self.assertRaises(TooGreat, answer, one, {}, at(0, 150), "least")
        self.assertEqual(answer(placed(one, 0, 0), {}, at(0, 150), "least"), 1)


if __name__ == "__main__":
    unittest.main()
