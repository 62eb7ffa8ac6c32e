"""The refusals, each directly under RoomError."""


class RoomError(ValueError):
    """Any refusal."""


class NoProgram(RoomError):
    """What is handed in makes no program."""


class NoGiven(RoomError):
    """What is handed in is no given of the program."""


class NoCell(RoomError):
    """What is asked for is no cell."""


class TooLong(RoomError):
    """There is more to go through than is gone through here."""


class TooGreat(RoomError):
    """The ask hangs on more cells than are reckoned here."""


class Ring(RoomError):
    """The ask hangs on a ring of cells; the field cells is one."""

    def __init__(self, cells):
        super().__init__("the ask hangs on a ring of cells")
        self.cells = list(cells)


class NoRule(RoomError):
    """The rule is not right for the ask, or none is."""


class NoRoad(RoomError):
    """There is no road or walk to be told."""


class NoTurn(RoomError):
    """The program cannot be turned so."""


class NoText(RoomError):
    """A text is not so written; the field line is the number of the first such line."""

    def __init__(self, line):
        super().__init__("the text is not of the form")
        self.line = line


class NoRow(RoomError):
    """What the desk is told is none of its rows."""


class NoName(RoomError):
    """The program has nothing of this name."""


class NoBack(RoomError):
    """There is nothing to be taken back."""
