"""Points 3, 26 and 27 by many programs: turned programs are as written, and tell the same."""

import copy
import random
import unittest

import making
import oracle
from roomtables.cells import mosts_of
from roomtables.errors import NoTurn, Ring, TooGreat, TooLong
from roomtables.orders import order_or_ring, wanted
from roomtables.placed import placed
from roomtables.plain import plain
from roomtables.programs import program_of
from roomtables.readings import fault_of
from roomtables.tables import answer
from roomtables.turned import cell_exchanged, cell_moved, exchanged, moved
from roomtables.words import WORDS


def told_of(asked, *handed):
    """What is told, or the refusal's class."""
    try:
        return asked(*handed)
    except (TooGreat, Ring, TooLong) as refusal:
        return type(refusal)


class ByOracle(unittest.TestCase):
    def programs(self, seed, many):
        chance = random.Random(seed)
        for n in range(many):
            program = making.a_falling_program(chance) if n % 3 else making.a_program(chance)
            yield chance, program, making.a_given(chance, program)

    def asks(self, chance, program, given):
        return making.some_cells(chance, mosts_of(program, given), 2)

    def alike(self, program, given, ask, turned, turned_ask, loose):
        """Both have the same kind of order or ring, and the same worths; loose where it may be another fault."""
        kinds = [told_of(order_or_ring, one, given, cell) for one, cell in ((program, ask), (turned, turned_ask))]
        if isinstance(kinds[0], type):
            self.assertEqual(*kinds)
            return str(kinds[0])
        self.assertEqual(kinds[0][0], kinds[1][0])
        for word in WORDS:
            for asked in (answer, plain):
                due = told_of(asked, program, given, ask, word)
                told = told_of(asked, turned, given, turned_ask, word)
                if isinstance(due, str) and loose:
                    self.assertIsInstance(told, str)
                else:
                    self.assertEqual(told, due)
        return kinds[0][0]

    def test_exchanged(self):
        met = []
        for chance, program, given in self.programs(81, 300):
            kept = copy.deepcopy(program)
            f = chance.randrange(len(program[1]))
            order = list(range(len(program[1][f][1])))
            chance.shuffle(order)
            order = tuple(order)
            turned = exchanged(program, f, order)
            self.assertEqual(turned, oracle.exchanged(program, f, order))
            self.assertEqual(program, kept)
            self.assertEqual(program_of(*turned), turned)
            back = tuple(order.index(place) for place in range(len(order)))
            self.assertEqual(exchanged(turned, f, back), program)
            for ask in self.asks(chance, program, given):
                turned_ask = cell_exchanged(ask, f, order)
                self.assertEqual(turned_ask, (ask[0], oracle.shuffled(ask[1], order)) if ask[0] == f else ask)
                met.append((self.alike(program, given, ask, turned, turned_ask, self.loose(program, given, ask, turned, f, order)), order))
        self.assertGreater(len([1 for kind, order in met if kind == "order" and order != tuple(sorted(order))]), 50)
        self.assertGreater(len([1 for kind, order in met if kind == "ring" and order != tuple(sorted(order))]), 10)

    def loose(self, program, given, ask, turned, f, order):
        """Whether a wanted cell's reading ends with another fault, as two are due in the args of one call."""
        for cell in oracle.hanging(program, given, ask):
            faults = [fault_of(program, given, cell), fault_of(turned, given, cell_exchanged(cell, f, order))]
            self.assertEqual(faults[0] is None, faults[1] is None)
            if faults[0] != faults[1]:
                # An order of one place, or none at all, changes no order of faults.
                self.assertNotIn("beyond", faults)
                self.assertNotIn("wide", faults)
                self.assertNotEqual(order, tuple(sorted(order)))
                return True
        return False

    def test_moved(self):
        met = []
        for chance, program, given in self.programs(82, 300):
            order = list(range(len(program[1])))
            chance.shuffle(order)
            order = tuple(order)
            turned = moved(program, order)
            self.assertEqual(turned, oracle.moved(program, order))
            self.assertEqual(program_of(*turned), turned)
            self.assertEqual(moved(turned, tuple(order.index(place) for place in range(len(order)))), program)
            for ask in self.asks(chance, program, given):
                turned_ask = cell_moved(ask, order)
                self.assertEqual(turned_ask, (order[ask[0]], ask[1]))
                met.append((self.alike(program, given, ask, turned, turned_ask, False), order))
        self.assertGreater(len([1 for kind, order in met if kind == "order" and order != tuple(sorted(order))]), 100)
        self.assertGreater(len([1 for kind, order in met if kind == "ring" and order != tuple(sorted(order))]), 15)

    def is_program(self, program):
        return all(many <= 60 and deep <= 12 and turns <= 2 for many, deep, turns in [oracle.size_of(one[2]) for one in program[1]])

    def test_placed(self):
        met = {"no turn": 0, "told": 0, "fewer": 0, "faults": 0}
        for chance, program, given in self.programs(83, 250):
            for f, n, g in oracle.calls_of(program):
                due = oracle.placed(program, f, n)
                if not self.is_program(due):
                    self.assertRaises(NoTurn, placed, program, f, n)
                    met["no turn"] += 1
                    continue
                turned = placed(program, f, n)
                self.assertEqual(turned, due)
                self.assertEqual(program_of(*turned), turned)
                for ask in self.asks(chance, program, given):
                    self.placed_alike(program, given, ask, turned, met)
            for f, (_, _, body) in enumerate(program[1]):
                many = len([1 for one in oracle.calls_of(program) if one[0] == f])
                self.assertRaises(NoTurn, placed, program, f, many)
        self.assertGreater(min(met.values()), 50, met)

    def placed_alike(self, program, given, ask, turned, met):
        first = told_of(order_or_ring, program, given, ask)
        if first == TooGreat or first[0] == "ring":
            return
        self.assertEqual(order_or_ring(turned, given, ask)[0], "order")
        cells = wanted(turned, given, ask)
        self.assertTrue(set(cells) <= set(first[1]))
        met["fewer"] += len(cells) < len(first[1])
        for word in WORDS:
            due = answer(program, given, ask, word)
            self.assertEqual(answer(turned, given, ask, word), due)
            met["told"] += 1
            met["faults"] += isinstance(due, str)
            plains = [told_of(plain, one, given, ask, word) for one in (program, turned)]
            self.assertTrue(all(one in (due, TooLong) for one in plains))


if __name__ == "__main__":
    unittest.main()
