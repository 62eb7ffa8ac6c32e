"""Points 3 and 20 to 22 by many programs: the same is told as by the tests' own way of reckoning."""

import random
import unittest

import making
import oracle
from roomtables.cells import mosts_of
from roomtables.checker import lets_by, rooms, told_by
from roomtables.errors import NoRule
from roomtables.papers import fewest, paper_of
from roomtables.readings import wants
from roomtables.rules import rules
from roomtables.tables import answer
from roomtables.words import WORDS

PLANS = ("all", "tight", "layers")


class ByOracle(unittest.TestCase):
    def asks(self, seed, many, least):
        """Asks that hang on so many cells at least, and have an order."""
        chance = random.Random(seed)
        while many > 0:
            program = making.a_falling_program(chance) if chance.random() < 0.9 else making.a_program(chance)
            given = making.a_given(chance, program)
            for ask in making.some_cells(chance, mosts_of(program, given), 2):
                hangs = oracle.hanging(program, given, ask)
                if least <= len(hangs) <= 200 and not oracle.has_ring(hangs):
                    many -= 1
                    yield chance, program, given, ask, hangs

    def test_papers(self):
        seen = set()
        for chance, program, given, ask, hangs in self.asks(61, 150, 2):
            right = [rule for rule in rules() if oracle.right(hangs, rule)]
            for rule in chance.sample(rules(), 3) + chance.sample(right, min(len(right), 4)):
                word = chance.choice(WORDS)
                for plan in PLANS:
                    if rule not in right:
                        self.assertRaises(NoRule, paper_of, program, given, ask, word, rule, plan)
                        continue
                    paper = paper_of(program, given, ask, word, rule, plan)
                    row = oracle.ranked(hangs, rule)
                    due = {
                        "all": list(range(len(row))), "tight": oracle.tight_rooms(hangs, row, ask),
                        "layers": oracle.layered_rooms(hangs, row, ask, rule),
                    }[plan]
                    self.assertEqual([one[:2] for one in paper], list(zip(row, due)))
                    self.assertIs(lets_by(program, given, ask, word, paper), True)
                    self.assertIs(oracle.lets_by(program, given, ask, word, paper), True)
                    self.assertEqual(told_by(paper, ask), answer(program, given, ask, word))
                    self.assertEqual(rooms(paper), len(set(due)))
                    if plan == "tight":
                        self.assertEqual(rooms(paper), oracle.least_rooms(hangs, row, ask))
                    seen.add((plan, rooms(paper)))
        self.assertGreater(len(seen), 12)

    def test_fewest(self):
        for chance, program, given, ask, hangs in self.asks(62, 60, 2):
            counts = [(len(set(oracle.tight_rooms(hangs, oracle.ranked(hangs, rule), ask))), n, rule)
                      for n, rule in enumerate(rules()) if oracle.right(hangs, rule)]
            if not counts:
                self.assertRaises(NoRule, fewest, program, given, ask)
                continue
            many, _, rule = min(counts)
            self.assertEqual(fewest(program, given, ask), (rule, many))

    def bent(self, chance, paper, cells):
        """A paper with some rows changed, moved, left out or put in."""
        paper = list(paper)
        for _ in range(chance.randrange(1, 4)):
            place = chance.randrange(len(paper)) if paper else 0
            way = chance.choice(["room", "room", "move", "out", "in", "in", "worth", "swap"])
            if way == "in" or not paper:
                paper.insert(place, (chance.choice(cells), chance.randrange(4), chance.choice([0, 1, None, "place", (1, 1)])))
                continue
            cell, room, worth = paper[place]
            if way == "room":
                paper[place] = (cell, chance.choice([0, 1, 2, 3, 9, 999, 1000, -1]), worth)
            elif way == "move":
                paper.insert(chance.randrange(len(paper)), paper.pop(place))
            elif way == "out":
                paper.pop(place)
            elif way == "swap":
                paper.insert(chance.randrange(len(paper)), (cell, chance.randrange(4), worth))
            else:
                paper[place] = (cell, room, chance.choice([worth, 0, 1, 2, None, "great", (0, 1), True]))
        return paper

    def test_bent_papers(self):
        told = {True: 0, False: 0}
        for chance, program, given, ask, hangs in self.asks(63, 150, 1):
            right = [rule for rule in rules() if oracle.right(hangs, rule)]
            if not right:
                continue
            word = chance.choice(WORDS)
            paper = paper_of(program, given, ask, word, chance.choice(right), chance.choice(PLANS))
            cells = sorted(hangs) + making.some_cells(chance, mosts_of(program, given), 2)
            for _ in range(12):
                bent = self.bent(chance, paper, cells)
                due = oracle.lets_by(program, given, ask, word, bent)
                self.assertIs(lets_by(program, given, ask, word, bent), due)
                told[due] += 1
                if due:
                    self.assertEqual(told_by(bent, ask), answer(program, given, ask, word))
        self.assertGreater(min(told.values()), 200)

    def test_papers_that_nobody_told(self):
        """Rows in some order in which wants come ahead, in rooms by chance, cells more than once: let by, or not."""
        told = {True: 0, False: 0}
        for chance, program, given, ask, hangs in self.asks(64, 150, 2):
            word = chance.choice(WORDS)
            known, paper = {}, []
            while ask not in known:
                ready = [cell for cell in sorted(hangs) if set(wants(program, given, cell)) <= set(known)]
                cell = chance.choice([one for one in ready if one not in known] + ready[:1])
                known[cell] = oracle.cell_worth(program, given, cell, word, known)
                paper.append((cell, chance.randrange(max(2, len(hangs))), known[cell]))
            due = oracle.lets_by(program, given, ask, word, paper)
            self.assertIs(lets_by(program, given, ask, word, paper), due)
            told[due] += 1
            if due:
                self.assertEqual(told_by(paper, ask), answer(program, given, ask, word))
        self.assertGreater(min(told.values()), 20)


if __name__ == "__main__":
    unittest.main()
