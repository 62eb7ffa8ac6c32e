"""Point 25: all walks of an ask, what they are worth, and the worths by the six words that they tell."""

import copy
import itertools
import unittest

from roomtables.errors import NoCell, NoRoad, Ring, TooGreat, TooLong
from roomtables.programs import program_of
from roomtables.tables import answer
from roomtables.walks import walk_product, walk_worth, walks
from writing import (
    A, B, C, ENDING, NONE, at, below, both, call, choose, each, every, gain, less, num, plus, same, times, when,
)


def one_function(body, most=300):
    return program_of((), (("fa", (num(most),), body),))


def by_arg(*bodies):
    """A program with one function that has one of these bodies by each arg, from 0 on."""
    body = bodies[-1]
    for k in reversed(range(len(bodies) - 1)):
        body = when(same(A, k), bodies[k], body)
    return one_function(body)


def walk(arg, picks, *inner):
    return (at(0, arg), picks, inner)


# A body with 300 ways, one with 301, and one with very many.
HUNDREDS = choose(each(1, 15, each(1, 16, gain(1))), each(1, 15, choose(gain(1), gain(2), gain(3), gain(4))))
ONE_MORE = choose(*HUNDREDS[1], gain(1))
VERY_MANY = every(1, 16, every(1, 16, choose(gain(1), gain(2), gain(3), gain(4))))


class Walks(unittest.TestCase):
    def all_of(self, program, ask, *due):
        told = walks(program, {}, at(0, ask))
        self.assertIs(type(told), list)
        self.assertEqual(told, list(due))
        self.assertEqual(repr(told), repr(list(due)))
        self.worths(program, ask, told)

    def worths(self, program, ask, told):
        """The worths by the six words are those that the walks tell."""
        worths = [walk_worth(program, {}, one) for one in told]
        answers = {word: answer(program, {}, at(0, ask), word) for word in ("least", "greatest", "ways", "sum", "leasts", "greatests")}
        self.assertEqual(answers, {
            "ways": len(told), "sum": sum(walk_product(program, {}, one) for one in told),
            "least": min(worths, default=None), "greatest": max(worths, default=None),
            "leasts": (min(worths), worths.count(min(worths))) if worths else None,
            "greatests": (max(worths), worths.count(max(worths))) if worths else None,
        })


class Told(Walks):
    def test_one_row(self):
        self.all_of(one_function(gain(3)), 0, walk(0, ()))
        self.all_of(one_function(choose(gain(3), gain(3), NONE, gain(4))), 0, walk(0, (0,)), walk(0, (1,)), walk(0, (3,)))
        self.all_of(one_function(each(-2, 1, gain(B))), 5, walk(5, (-2,)), walk(5, (-1,)), walk(5, (0,)), walk(5, (1,)))
        self.all_of(one_function(every(2, 1, NONE)), 0, walk(0, ()))
        self.all_of(one_function(both(choose(gain(1), gain(2)), each(3, 4, gain(B)))), 0,
                    walk(0, (0, 3)), walk(0, (0, 4)), walk(0, (1, 3)), walk(0, (1, 4)))
        self.all_of(one_function(every(1, 2, choose(gain(B), gain(5)))), 0,
                    walk(0, (0, 0)), walk(0, (0, 1)), walk(0, (1, 0)), walk(0, (1, 1)))

    def test_without_ways(self):
        for body in (NONE, each(1, 0, gain(1)), both(gain(1), NONE), choose(NONE, both(NONE, gain(2))), every(1, 1, NONE)):
            self.all_of(one_function(body), 0)
        self.all_of(by_arg(NONE, both(gain(1), call(0, 0))), 1)
        self.all_of(by_arg(NONE, choose(call(0, 0), gain(1))), 1, walk(1, (1,)))

    def test_within_one_another(self):
        body = choose(choose(gain(1), gain(2)), each(7, 8, choose(gain(B), NONE)), gain(3))
        self.all_of(one_function(body), 0, walk(0, (0, 0)), walk(0, (0, 1)), walk(0, (1, 7, 0)), walk(0, (1, 8, 0)), walk(0, (2,)))

    def test_a_walk_of_each_called_cell(self):
        program = by_arg(choose(gain(1), gain(2)), both(gain(5), call(0, 0)), both(call(0, 1), choose(gain(0), call(0, 0))))
        zero = [walk(0, (0,)), walk(0, (1,))]
        one = [walk(1, (), inner) for inner in zero]
        self.all_of(program, 1, *one)
        self.all_of(program, 2, walk(2, (0,), one[0]), walk(2, (0,), one[1]), walk(2, (1,), one[0], zero[0]),
                    walk(2, (1,), one[0], zero[1]), walk(2, (1,), one[1], zero[0]), walk(2, (1,), one[1], zero[1]))

    def test_as_often_as_it_is_called(self):
        program = by_arg(choose(gain(1), gain(2)), both(call(0, 0), call(0, 0)))
        self.all_of(program, 1, *[walk(1, (), walk(0, (one,)), walk(0, (other,))) for one in (0, 1) for other in (0, 1)])
        program = by_arg(choose(gain(1), gain(2)), every(1, 3, call(0, 0)))
        self.all_of(program, 1, *[
            walk(1, (), *[walk(0, (pick,)) for pick in picks]) for picks in itertools.product((0, 1), repeat=3)])

    def test_picks_go_ahead_of_walks(self):
        # The walks of the first part stand ahead in the body, but behind the picks in the walk.
        program = by_arg(choose(gain(1), gain(2)), both(call(0, 0), choose(gain(1), gain(2))))
        self.all_of(program, 1, *[walk(1, (pick,), walk(0, (inner,))) for pick in (0, 1) for inner in (0, 1)])

    def test_as_tuples_compare(self):
        program = by_arg(choose(gain(1), both(gain(2), choose(gain(1), gain(3)))), each(0, 0, call(0, B)), choose(call(0, 1), call(0, 0)),
                         both(each(0, 2, call(0, B)), each(1, 2, call(0, B))))
        told = walks(program, {}, at(0, 3))
        self.assertEqual(told, sorted(told))
        self.assertEqual(len(told), (3 + 3 + 6) * (3 + 6))
        self.assertEqual(len(set(told)), len(told))
        self.worths(program, 3, told)

    def test_of_several_functions(self):
        program = program_of((("line", "row"),), (
            ("fa", (num(5), num(5)), choose(call(1, B), both(call(1, A), gain(-1)))),
            ("fb", (num(5),), each(0, A, gain(("at", "line", B)))),
        ))
        given = {"line": [7, 3, 4, 5]}
        told = walks(program, given, at(0, 1, 0))
        self.assertEqual(told, [
            (at(0, 1, 0), (0,), ((at(1, 0), (0,), ()),)),
            (at(0, 1, 0), (1,), ((at(1, 1), (0,), ()),)), (at(0, 1, 0), (1,), ((at(1, 1), (1,), ()),)),
        ])
        self.assertEqual([walk_worth(program, given, one) for one in told], [7, 6, 2])
        self.assertEqual([walk_product(program, given, one) for one in told], [7, -7, -3])

    def test_the_askers_own(self):
        program = by_arg(choose(gain(1), gain(2)), both(call(0, 0), call(0, 0)))
        told = walks(program, {}, at(0, 1))
        kept = copy.deepcopy(told)
        told.clear()
        self.assertEqual(walks(program, {}, at(0, 1)), kept)


class Refused(Walks):
    def refuses(self, error, program, ask):
        self.assertRaises(error, walks, program, {}, at(0, ask))

    def test_no_cell_too_great_ring(self):
        great = one_function(when(same(A, 0), both(call(0, 0), gain(("full", num(13)))), call(0, less(A, 1))))
        for ask in (at(0, 301), at(0, -1), at(1, 0), at(0), at(0, True), [0, (1,)], None):
            self.assertRaises(NoCell, walks, great, {}, ask)
        self.refuses(TooGreat, great, 200)
        with self.assertRaises(Ring) as caught:
            walks(great, {}, at(0, 199))
        self.assertEqual(caught.exception.cells, [at(0, 0)])
        # Also ahead of walks that are too many.
        self.refuses(Ring, by_arg(ONE_MORE, both(call(0, 0), call(0, 1))), 1)
        self.refuses(TooGreat, one_function(when(same(A, 0), ONE_MORE, call(0, less(A, 1)))), 200)

    def test_a_fault_in_a_reading(self):
        for body, fault in ENDING:
            self.refuses(NoRoad, one_function(body), 0)
            self.refuses(NoRoad, by_arg(body, call(0, 0)), 1)
            self.refuses(NoRoad, by_arg(body, choose(gain(1), both(NONE, call(0, 0)))), 1)
            self.refuses(NoRoad, by_arg(body, ONE_MORE, both(call(0, 1), call(0, 0))), 2)
            self.refuses(NoRoad, by_arg(both(ONE_MORE, body), gain(1), choose(call(0, 0), call(0, 1))), 2)
            self.all_of(by_arg(body, gain(1), call(0, 1)), 2, walk(2, (), walk(1, ())))

    def test_three_hundred_and_one_more(self):
        self.assertEqual(len(walks(one_function(HUNDREDS), {}, at(0, 0))), 300)
        self.refuses(TooLong, one_function(ONE_MORE), 0)
        self.refuses(TooLong, one_function(VERY_MANY), 0)
        self.worths(one_function(HUNDREDS), 0, walks(one_function(HUNDREDS), {}, at(0, 0)))
        program = by_arg(HUNDREDS, call(0, 0), choose(call(0, 1), gain(1)))
        self.assertEqual(len(walks(program, {}, at(0, 1))), 300)
        self.refuses(TooLong, program, 2)

    def test_of_another_wanted_cell(self):
        for more in (both(call(0, 0), NONE), choose(gain(1), both(call(0, 0), NONE)), both(NONE, call(0, 0))):
            self.refuses(TooLong, by_arg(ONE_MORE, more), 1)
            self.refuses(TooLong, by_arg(VERY_MANY, more), 1)
            told = walks(by_arg(HUNDREDS, more), {}, at(0, 1))
            self.assertEqual(told, [walk(1, (0,))] if more[0] == "choose" else [])

    def test_sixty_rows_and_one_more(self):
        chain = one_function(when(same(A, 0), gain(1), call(0, less(A, 1))))
        told = walks(chain, {}, at(0, 59))
        self.assertEqual(len(told), 1)
        one, many = told[0], 1
        while one[2]:
            one, many = one[2][0], many + 1
        self.assertEqual((one, many), (walk(0, ()), 60))
        self.assertEqual(walk_worth(chain, {}, told[0]), 1)
        self.refuses(TooLong, chain, 60)
        self.refuses(TooLong, chain, 199)

    def test_rows_side_by_side(self):
        for many, due in ((3, True), (4, False)):
            # One row, three times seventeen, and eight or nine.
            program = by_arg(gain(1), every(1, 16, call(0, 0)), both(every(1, 3, call(0, 1)), every(1, many + 5, call(0, 0))))
            if due:
                self.assertEqual(len(walks(program, {}, at(0, 2))), 1)
            else:
                self.refuses(TooLong, program, 2)

    def test_the_longest_of_all_walks(self):
        program = by_arg(gain(1), every(1, 16, call(0, 0)), every(1, 3, call(0, 1)), choose(gain(1), both(call(0, 2), every(1, 7, call(0, 0)))),
                         choose(both(call(0, 2), every(1, 8, call(0, 0))), gain(1)))
        told = walks(program, {}, at(0, 3))
        self.assertEqual([one[1] for one in told], [(0,), (1,)])
        self.refuses(TooLong, program, 4)

    def test_rows_of_another_wanted_cell(self):
        chain = when(below(A, 100), when(same(A, 0), gain(1), call(0, less(A, 1))), both(NONE, call(0, less(A, 100))))
        program = one_function(chain)
        self.assertEqual(walks(program, {}, at(0, 159)), [])
        self.refuses(TooLong, program, 160)

    def test_a_part_without_a_way_beside_one_with_very_many(self):
        for body in (
            both(VERY_MANY, NONE), both(NONE, VERY_MANY), every(1, 2, when(same(B, 2), NONE, VERY_MANY[3])),
            both(each(1, 0, gain(1)), both(VERY_MANY, gain(1))), both(VERY_MANY, both(gain(1), choose(NONE, each(3, 2, gain(1))))),
        ):
            self.all_of(one_function(body), 0)
            self.all_of(one_function(choose(NONE, body, gain(3), body)), 0, walk(0, (2,)))
            self.all_of(by_arg(both(body, gain(2)), choose(call(0, 0), gain(3))), 1, walk(1, (1,)))

    def test_a_cell_without_a_walk_beside_very_many(self):
        program = by_arg(NONE, both(VERY_MANY, call(0, 0)), both(call(0, 1), VERY_MANY), choose(call(0, 2), gain(1)))
        for ask in (1, 2):
            self.all_of(program, ask)
        self.all_of(program, 3, walk(3, (1,)))

    def test_a_part_without_a_way_beside_one_of_many_rows(self):
        program = by_arg(gain(1), every(1, 16, call(0, 0)), both(every(1, 4, call(0, 1)), NONE),
                         choose(both(every(1, 16, call(0, 1)), each(1, 0, gain(1))), both(call(0, 1), NONE), call(0, 1)))
        self.all_of(program, 2)
        self.all_of(program, 3, walk(3, (2,), walks(program, {}, at(0, 1))[0]))

    def test_many_ways_of_few_rows_and_few_of_many(self):
        program = by_arg(gain(1), HUNDREDS, every(1, 16, every(1, 3, call(0, 0))), both(call(0, 2), every(1, 10, call(0, 0))), both(call(0, 3), call(0, 0)))
        self.assertEqual(len(walks(program, {}, at(0, 3))), 1)
        self.refuses(TooLong, program, 4)
        self.assertEqual(len(walks(program, {}, at(0, 1))), 300)

    def test_what_is_not_wanted(self):
        program = by_arg(VERY_MANY, when(below(A, 5), gain(1), call(0, 0)))
        self.all_of(program, 1, walk(1, ()))
        self.refuses(TooLong, program, 5)


class Worths(Walks):
    def test_sums_and_products(self):
        program = one_function(both(gain(3), both(gain(-5), every(1, 3, gain(times(B, 2))))))
        self.assertEqual(walk_worth(program, {}, walk(0, ())), 10)
        self.assertEqual(walk_product(program, {}, walk(0, ())), 3 * -5 * 2 * 4 * 6)

    def test_of_all_rows(self):
        program = by_arg(choose(gain(2), gain(3)), both(gain(5), both(call(0, 0), call(0, 0))), both(call(0, 1), gain(7)))
        one = walk(2, (), walk(1, (), walk(0, (0,)), walk(0, (1,))))
        self.assertEqual(walk_worth(program, {}, one), 5 + 2 + 3 + 7)
        self.assertEqual(walk_product(program, {}, one), 5 * 2 * 3 * 7)
        one = walk(2, (), walk(1, (), walk(0, (1,)), walk(0, (1,))))
        self.assertEqual(walk_worth(program, {}, one), 5 + 3 + 3 + 7)
        self.assertEqual(walk_product(program, {}, one), 5 * 3 * 3 * 7)

    def test_without_gains(self):
        program = one_function(every(2, 1, gain(1)))
        self.assertEqual(walk_worth(program, {}, walk(0, ())), 0)
        self.assertEqual(walk_product(program, {}, walk(0, ())), 1)
        program = by_arg(every(2, 1, gain(1)), both(call(0, 0), call(0, 0)))
        self.assertEqual(walk_worth(program, {}, walk(1, (), walk(0, ()), walk(0, ()))), 0)
        self.assertEqual(walk_product(program, {}, walk(1, (), walk(0, ()), walk(0, ()))), 1)

    def test_a_gain_of_0(self):
        program = one_function(choose(both(gain(0), gain(4)), gain(0)))
        self.assertEqual(walk_product(program, {}, walk(0, (0,))), 0)
        self.assertEqual(walk_worth(program, {}, walk(0, (0,))), 4)

    def test_great_numbers(self):
        program = one_function(every(1, 16, every(1, 16, gain(10 ** 29))))
        self.assertEqual(walk_worth(program, {}, walk(0, ())), 256 * 10 ** 29)
        program = one_function(every(1, 16, gain(10 ** 29)))
        self.assertEqual(walk_product(program, {}, walk(0, ())), 10 ** (29 * 16))

    def test_a_thousand_rows(self):
        program = by_arg(gain(2), every(1, 16, call(0, 0)), every(1, 16, every(1, 4, call(0, 1))))
        one = walk(2, (), *[walk(1, (), *[walk(0, ())] * 16)] * 64)
        self.assertEqual(walk_worth(program, {}, one), 2048)
        self.assertEqual(walk_product(program, {}, one), 2 ** 1024)

    def test_cells_that_are_not_gone_through(self):
        for body, _ in ENDING:
            program = by_arg(body, gain(7), choose(call(0, 1), call(0, 0)))
            self.assertEqual(walk_worth(program, {}, walk(2, (0,), walk(1, ()))), 7)
            self.assertEqual(walk_product(program, {}, walk(2, (0,), walk(1, ()))), 7)

    def test_nothing_is_changed(self):
        program = by_arg(choose(gain(2), gain(3)), both(gain(5), both(call(0, 0), call(0, 0))))
        one = walk(1, (), walk(0, (0,)), walk(0, (1,)))
        for _ in range(2):
            self.assertEqual(walk_worth(program, {}, one), 10)
            self.assertEqual(walk_product(program, {}, one), 30)
        self.assertEqual(one, walk(1, (), walk(0, (0,)), walk(0, (1,))))


class ByWords(Walks):
    def test_leasts_and_greatests(self):
        program = by_arg(choose(gain(1), gain(2), gain(1)), both(call(0, 0), call(0, 0)), each(0, 1, both(call(0, B), gain(plus(B, -2)))))
        for ask in range(3):
            self.worths(program, ask, walks(program, {}, at(0, ask)))
        self.assertEqual(answer(program, {}, at(0, 1), "leasts"), (2, 4))
        self.assertEqual(answer(program, {}, at(0, 1), "greatests"), (4, 1))

    def test_turns_within_turns(self):
        program = one_function(each(1, 3, every(B, 3, choose(gain(C), gain(times(B, -1))))))
        told = walks(program, {}, at(0, 0))
        self.assertEqual(len(told), 8 + 4 + 2)
        self.worths(program, 0, told)


if __name__ == "__main__":
    unittest.main()
