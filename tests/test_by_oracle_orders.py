"""Points 3 and 14 to 17 by many programs: the same is told as by the tests' own way of reckoning."""

import copy
import random
import unittest

import making
import oracle
from roomtables.cells import mosts_of
from roomtables.errors import Ring, TooGreat, TooLong
from roomtables.orders import order_or_ring, wanted
from roomtables.plain import plain
from roomtables.rules import is_right, right_rules, rules
from roomtables.tables import answer, table
from roomtables.words import WORDS


def plain_or_none(told, *args):
    """What a plain runner tells, in a list, or None where it is too long."""
    try:
        return [told(*args)]
    except (TooLong, oracle.Long):
        return None


class ByOracle(unittest.TestCase):
    def programs(self, seed, many):
        """Programs of both kinds, each with a given and some asks."""
        chance = random.Random(seed)
        for n in range(many):
            program = making.a_falling_program(chance) if n % 2 else making.a_program(chance)
            given = making.a_given(chance, program)
            kept = copy.deepcopy(given)
            for ask in making.some_cells(chance, mosts_of(program, given), 2):
                yield program, given, ask
            self.assertEqual(given, kept)

    def test_plain(self):
        met = set()
        for program, given, ask in self.programs(21, 200):
            for word in WORDS:
                due = plain_or_none(oracle.plain, program, given, ask, word)
                told = plain_or_none(plain, program, given, ask, word)
                self.assertEqual(told, due)
                self.assertEqual(str(told), str(due))
                met.add(str(due[0]) if due else None)
        self.assertTrue({None, "place", "nought", "great", "beyond", "None", "0"} <= met)

    def test_orders_and_tables(self):
        met = []
        for program, given, ask in self.programs(22, 600):
            hangs = oracle.hanging(program, given, ask)
            if len(hangs) > 200:
                self.assertRaises(TooGreat, wanted, program, given, ask)
                continue
            self.assertEqual(wanted(program, given, ask), sorted(hangs))
            kind, row = order_or_ring(program, given, ask)
            self.assertEqual(kind, "ring" if oracle.has_ring(hangs) else "order")
            met.append((kind, len(row)))
            if kind == "ring":
                self.ring(program, given, ask, hangs, row)
            else:
                self.order(program, given, ask, hangs, row)
        self.assertGreater(len([1 for kind, many in met if kind == "order" and many > 5]), 50)
        self.assertGreater(len([1 for kind, many in met if kind == "ring" and many > 1]), 10)

    def ring(self, program, given, ask, hangs, row):
        for cell, after in zip(row, row[1:] + row[:1]):
            self.assertIn(after, hangs[cell])
        self.assertEqual(len(set(row)), len(row))
        with self.assertRaises(Ring) as caught:
            answer(program, given, ask, "least")
        cells = caught.exception.cells
        for cell, after in zip(cells, cells[1:] + cells[:1]):
            self.assertIn(after, hangs[cell])
        self.assertRaises(Ring, table, program, given, ask, "sum")

    def order(self, program, given, ask, hangs, row):
        self.assertEqual(sorted(row), sorted(hangs))
        for place, cell in enumerate(row):
            self.assertTrue(hangs[cell] <= set(row[:place]))
        for word in WORDS:
            known = {}
            for cell in row:
                known[cell] = oracle.cell_worth(program, given, cell, word, known)
            self.assertEqual(table(program, given, ask, word), sorted(known.items(), key=lambda row: row[0]))
            self.assertEqual(answer(program, given, ask, word), known[ask])
            told = plain_or_none(plain, program, given, ask, word)
            if told is not None:
                self.assertEqual(told, [known[ask]])

    def test_rules(self):
        for program, given, ask in self.programs(23, 300):
            hangs = oracle.hanging(program, given, ask)
            if len(hangs) > 200:
                self.assertRaises(TooGreat, right_rules, program, given, ask)
                continue
            due = [rule for rule in rules() if oracle.right(hangs, rule)]
            self.assertEqual(right_rules(program, given, ask), due)
            for rule in rules()[::17]:
                self.assertIs(is_right(program, given, ask, rule), rule in due)
            if oracle.has_ring(hangs):
                self.assertEqual(due, [])


if __name__ == "__main__":
    unittest.main()
