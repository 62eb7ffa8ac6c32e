"""Points 3, 28 and 29 by many programs: texts are read back, and bent ones are refused at the first bad line."""

import random
import unittest

import making
import oracle
from roomtables.cells import mosts_of
from roomtables.errors import NoProgram, NoText
from roomtables.notes import read_cell, read_paper, show_cell, show_paper
from roomtables.programs import program_of
from roomtables.reader import read
from roomtables.texts import show
from roomtables.words import WORDS

SIGNS = "() \nab019-xfunABC,;"


def a_drawn_program(chance):
    return chance.choice([making.a_program, making.a_falling_program, making.a_lined_program])(chance)


class ByOracle(unittest.TestCase):
    def test_read_back(self):
        chance = random.Random(101)
        for _ in range(400):
            program = a_drawn_program(chance)
            text = show(program)
            self.assertIsNone(oracle.first_bad_line(text))
            self.assertEqual(read(text), program)
            self.assertEqual(repr(read(text)), repr(program))
            self.assertEqual(program_of(*read(text)), program)

    def bent(self, chance, text):
        """A text with some signs, words or lines put in, left out or changed."""
        for _ in range(chance.choice([1, 1, 1, 2, 3])):
            place = chance.randrange(len(text) + 1)
            way = chance.choice(["in", "out", "change", "double", "word", "line", "swap"])
            if way == "in":
                text = text[:place] + chance.choice(SIGNS) + text[place:]
            elif way == "out":
                text = text[:place] + text[place + 1:]
            elif way == "change":
                text = text[:place] + chance.choice(SIGNS) + text[place + 1:]
            elif way == "double":
                text = text[:place] + text[place:place + 1] * 2 + text[place + 1:]
            elif way == "word":
                words = text.split(" ")
                words[chance.randrange(len(words))] = chance.choice(["fa", "fb", "zz", "(gain", "(half", "(none)", "1)", "a", "count", "(fun", "(call"])
                text = " ".join(words)
            else:
                lines = text.split("\n")
                one, other = chance.randrange(len(lines)), chance.randrange(len(lines))
                lines[one], lines[other] = lines[other], lines[one] if way == "swap" else lines[other]
                text = "\n".join(lines)
        return text

    def told(self, text):
        """The line that is refused, or None; what is read is written just so."""
        try:
            self.assertEqual(show(read(text)), text)
        except NoText as refusal:
            return refusal.line
        except NoProgram:
            return None
        return None

    def test_bent_texts(self):
        chance = random.Random(102)
        met = {}
        for _ in range(1500):
            text = self.bent(chance, show(a_drawn_program(chance)))
            due = oracle.first_bad_line(text)
            self.assertEqual(self.told(text), due, text)
            met[due] = met.get(due, 0) + 1
        self.assertGreater(met[None], 100)
        self.assertGreater(min(met[line] for line in range(7)), 10)

    def test_cells_and_papers(self):
        chance = random.Random(103)
        for _ in range(200):
            program = a_drawn_program(chance)
            given = making.a_given(chance, program)
            cells = making.some_cells(chance, mosts_of(program, given), 5)
            word = chance.choice(WORDS)
            paper = [(cell, chance.choice([0, 1, 2, 999, -1, 10 ** 29]), making.a_worth(chance, word)) for cell in cells]
            for cell in cells:
                self.assertEqual(read_cell(program, show_cell(program, cell)), cell)
            self.assertEqual(read_paper(program, show_paper(program, paper)), paper)


if __name__ == "__main__":
    unittest.main()
