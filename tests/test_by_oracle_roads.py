"""Points 3, 24 and 25 by many programs: the same is told as by going through all picks and walks one by one."""

import random
import unittest

import making
import oracle
from roomtables.cells import mosts_of
from roomtables.errors import NoRoad, Ring, TooGreat, TooLong
from roomtables.roads import is_road, road, road_worth
from roomtables.tables import answer
from roomtables.walks import walk_product, walk_worth, walks
from roomtables.words import WORDS


def length(program, given, cell):
    """How long a cell's reading is: of short ones the picks can be gone through one by one."""
    return len(oracle.Events(program, given, cell).rows)


class ByOracle(unittest.TestCase):
    def asks(self, seed, many):
        """Asks that hang on few enough cells, with what they hang on."""
        chance = random.Random(seed)
        while many > 0:
            program = making.a_falling_program(chance) if chance.random() < 0.8 else making.a_program(chance)
            given = making.a_given(chance, program)
            for ask in making.some_cells(chance, mosts_of(program, given), 3):
                hangs = oracle.hanging(program, given, ask)
                if len(hangs) > 200:
                    for asked in (walks, lambda *handed: road(*handed, "least"), lambda *handed: is_road(*handed, [])):
                        self.assertRaises(TooGreat, asked, program, given, ask)
                elif oracle.has_ring(hangs):
                    for asked in (walks, lambda *handed: road(*handed, "ways"), lambda *handed: is_road(*handed, [])):
                        self.assertRaises(Ring, asked, program, given, ask)
                elif max(length(program, given, cell) for cell in hangs) < 60:
                    many -= 1
                    yield chance, program, given, ask, hangs

    def test_roads(self):
        lengths = set()
        met = set()
        for chance, program, given, ask, hangs in self.asks(71, 300):
            for word in ("least", "greatest"):
                due = oracle.all_worths(program, given, hangs, word)[ask]
                met.add(str(due))
                if isinstance(due, str):
                    self.assertRaises(NoRoad, road, program, given, ask, word)
                    continue
                told = road(program, given, ask, word)
                if due is None:
                    self.assertIsNone(told)
                    continue
                self.assertEqual(told, oracle.road(program, given, ask, hangs, word))
                self.assertIs(is_road(program, given, ask, told), True)
                self.assertEqual(road_worth(program, given, told), due)
                lengths.add(len(told))
        self.assertGreater(len(lengths), 8)
        self.assertTrue({"None", "place", "beyond"} <= met)

    def drawn_road(self, chance, program, given, ask):
        """A road by chance, rows in an order by chance, each led to by one ahead; None where there is no way."""
        rows, due = [], [ask]
        while due:
            cell = due.pop(chance.randrange(len(due)))
            right = oracle.all_picks(program, given, cell)
            if not right:
                return None
            picks = chance.choice(sorted(right))
            rows.append((cell, picks))
            done = [one for one, _ in rows]
            due += [one for one in dict.fromkeys(right[picks][0]) if one not in done + due]
        return rows

    def worth(self, program, given, rows, cell):
        called, gains = oracle.all_picks(program, given, cell)[dict(rows)[cell]]
        return sum(gains) + sum(self.worth(program, given, rows, one) for one in called)

    def test_roads_that_nobody_told(self):
        many = bent = 0
        for chance, program, given, ask, hangs in self.asks(72, 200):
            if any(oracle.fault_of(program, given, cell) is not None for cell in hangs):
                self.assertRaises(NoRoad, is_road, program, given, ask, [])
                continue
            rows = self.drawn_road(chance, program, given, ask)
            ways = oracle.all_worths(program, given, hangs, "ways")[ask]
            if rows is None or isinstance(ways, str) or ways > 2000:
                continue
            many += 1
            self.assertIs(is_road(program, given, ask, rows), True)
            told = road_worth(program, given, rows)
            self.assertEqual(told, self.worth(program, given, rows, ask))
            self.assertLessEqual(answer(program, given, ask, "least"), told)
            self.assertGreaterEqual(answer(program, given, ask, "greatest"), told)
            for place in range(len(rows)):
                others = [rows[:place] + rows[place + 1:], rows + [rows[place]], rows[:place] + [rows[place]] + rows[place:]]
                for picks in ((0,), (), rows[place][1] + (0,), rows[place][1][1:]):
                    if picks not in oracle.all_picks(program, given, rows[place][0]):
                        others.append(rows[:place] + [(rows[place][0], picks)] + rows[place + 1:])
                for other in others:
                    bent += 1
                    self.assertIs(is_road(program, given, ask, other), False)
        self.assertGreater(many, 60)
        self.assertGreater(bent, 300)

    def test_walks(self):
        met = set()
        for chance, program, given, ask, hangs in self.asks(73, 400):
            if any(oracle.fault_of(program, given, cell) is not None for cell in hangs):
                self.assertRaises(NoRoad, walks, program, given, ask)
                continue
            many = oracle.all_worths(program, given, hangs, "ways")
            if any(isinstance(one, str) or one > 300 for one in many.values()):
                self.assertRaises(TooLong, walks, program, given, ask)
                met.add("many")
                continue
            due = oracle.all_walks(program, given, hangs)
            if any(len(oracle.rows_of(walk)) > 60 for told in due.values() for walk in told):
                self.assertRaises(TooLong, walks, program, given, ask)
                met.add("long")
                continue
            told = walks(program, given, ask)
            self.assertEqual(told, sorted(due[ask]))
            met.add(len(told))
            self.worths(program, given, ask, told)
        self.assertTrue({"many", 0, 1, 2, 4} <= met)
        self.assertGreater(len(met), 15)

    def worths(self, program, given, ask, told):
        worths = [walk_worth(program, given, walk) for walk in told]
        products = [walk_product(program, given, walk) for walk in told]
        for walk, worth, product in list(zip(told, worths, products))[:10]:
            gains = oracle.gains_of(program, given, walk)
            self.assertEqual(worth, sum(gains))
            for gain in gains:
                product = product // gain if gain else product
            self.assertEqual(product, 0 if 0 in gains else 1)
        answers = {word: answer(program, given, ask, word) for word in WORDS}
        least, greatest = min(worths, default=None), max(worths, default=None)
        self.assertEqual(answers, {
            "least": least, "greatest": greatest, "ways": len(told), "sum": sum(products),
            "leasts": (least, worths.count(least)) if told else None, "greatests": (greatest, worths.count(greatest)) if told else None,
        })


if __name__ == "__main__":
    unittest.main()
