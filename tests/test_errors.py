"""The refusals: what they are, what they are made of, and their fields."""

import unittest

from roomtables import errors
from roomtables.errors import (
    NoBack, NoCell, NoGiven, NoName, NoProgram, NoRoad, NoRow, NoRule, NoText, NoTurn, Ring, RoomError, TooGreat,
    TooLong,
)

PLAIN = [NoProgram, NoGiven, NoCell, TooLong, TooGreat, NoRule, NoRoad, NoTurn, NoRow, NoName, NoBack]
ALL = PLAIN + [Ring, NoText]


class Errors(unittest.TestCase):
    def test_there_are_thirteen_under_their_names(self):
        self.assertEqual(len(set(ALL)), 13)
        names = (
            "NoProgram NoGiven NoCell TooLong TooGreat NoRule NoRoad NoTurn NoRow NoName NoBack Ring NoText".split()
        )
        self.assertEqual([one.__name__ for one in ALL], names)
        for name in names:
            self.assertTrue(hasattr(errors, name))

    def test_room_error_is_a_value_error(self):
        self.assertEqual(RoomError.__bases__, (ValueError,))

    def test_each_stands_directly_under_room_error(self):
        for one in ALL:
            self.assertEqual(one.__bases__, (RoomError,), one)

    def test_none_stands_under_another_one(self):
        for one in ALL:
            for other in ALL:
                self.assertEqual(issubclass(one, other), one is other, (one, other))

    def test_made_of_nothing_or_of_a_text(self):
        for one in PLAIN + [RoomError]:
            for told in (one(), one("why")):
                self.assertIsInstance(told, one)
                self.assertIsInstance(told, RoomError)
                self.assertIsInstance(told, ValueError)
            self.assertEqual(str(one("why")), "why")

    def test_each_is_caught_by_its_own_name_alone(self):
        for one in PLAIN:
            for other in ALL:
                if other is not one:
                    with self.assertRaises(one):
                        try:
                            raise one("why")
                        except other:
                            self.fail(f"{one} is caught as {other}")

    def test_ring_has_the_field_cells(self):
        cells = [(0, (1,)), (1, (2, 3))]
        ring = Ring(cells)
        self.assertEqual(ring.cells, [(0, (1,)), (1, (2, 3))])
        self.assertIsInstance(ring.cells, list)
        self.assertIsInstance(ring, RoomError)

    def test_ring_keeps_what_it_was_made_of(self):
        cells = [(0, (1,))]
        ring = Ring(cells)
        cells.append((0, (2,)))
        self.assertEqual(ring.cells, [(0, (1,))])
        ring.cells.append((0, (3,)))
        self.assertEqual(cells, [(0, (1,)), (0, (2,))])

    def test_no_text_has_the_field_line(self):
        for line in (0, 1, 17):
            one = NoText(line)
            self.assertEqual(one.line, line)
            self.assertIsInstance(one, RoomError)

    def test_the_fields_are_there_when_caught(self):
        with self.assertRaises(Ring) as caught:
            raise Ring([(0, (0,))])
        self.assertEqual(caught.exception.cells, [(0, (0,))])
        with self.assertRaises(NoText) as caught:
            raise NoText(4)
        self.assertEqual(caught.exception.line, 4)


if __name__ == "__main__":
    unittest.main()
