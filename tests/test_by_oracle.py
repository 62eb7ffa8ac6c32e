"""Points 5, 6, 11, 12 and 13 by many programs: the same is told as by the tests' own way of reckoning."""

import copy
import random
import unittest

import making
import oracle
from roomtables.cells import is_cell, mosts_of
from roomtables.conds import holds, is_cond
from roomtables.readings import calls, cell_worth, fault_of, wants
from roomtables.sums import is_sum, worth
from roomtables.words import WORDS


def fault_or(reckoned, *args):
    try:
        return reckoned(*args)
    except oracle.Fault as fault:
        return str(fault)


class ByOracle(unittest.TestCase):
    def test_sums_and_conditions(self):
        chance = random.Random(5)
        program = making.a_program(chance)
        met = set()
        for _ in range(1500):
            given, own = making.a_given(chance, program), [making.small(chance) for _ in range(3)]
            one, cond = making.a_sum(chance, 3, 5), making.a_cond(chance, 3, 5)
            self.assertIs(is_sum(one, making.NEEDS, 3), True)
            self.assertIs(is_cond(cond, making.NEEDS, 3), True)
            kept = copy.deepcopy((given, own))
            self.assertEqual(worth(one, given, own), fault_or(oracle.number_of, one, given, own), one)
            self.assertIs(type(worth(one, given, own)), type(fault_or(oracle.number_of, one, given, own)))
            truth = fault_or(oracle.truth_of, cond, given, own)
            self.assertEqual(holds(cond, given, own), truth, cond)
            self.assertEqual((given, own), kept)
            met |= {str(worth(one, given, own)), truth}
        self.assertTrue({"place", "nought", True, False} <= met)

    def test_readings(self):
        chance = random.Random(11)
        met, many = set(), 0
        for _ in range(1500):
            program = making.a_program(chance)
            given = making.a_given(chance, program)
            kept = copy.deepcopy(given)
            for cell in making.some_cells(chance, mosts_of(program, given), 3):
                self.assertIs(is_cell(program, given, cell), True)
                due = oracle.calls(program, given, cell)
                self.assertEqual(calls(program, given, cell), due)
                self.assertEqual(wants(program, given, cell), list(dict.fromkeys(cell for _, cell in due)))
                fault = oracle.fault_of(program, given, cell)
                self.assertEqual(fault_of(program, given, cell), fault)
                met.add(fault)
                many += len(due)
                self.worths(chance, program, given, cell, [called for _, called in due])
            self.assertEqual(given, kept)
        self.assertTrue({None, "place", "nought", "wide", "beyond"} <= met)
        self.assertGreater(many, 3000)

    def worths(self, chance, program, given, cell, called):
        for word in WORDS:
            known = {one: making.a_worth(chance, word) for one in called}
            kept = dict(known)
            due = oracle.cell_worth(program, given, cell, word, known)
            told = cell_worth(program, given, cell, word, known)
            self.assertEqual(told, due)
            self.assertIs(type(told), type(due))
            self.assertEqual(known, kept)


if __name__ == "__main__":
    unittest.main()
