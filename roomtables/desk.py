"""The desk: it keeps a program and what is given to it, is told rows and answers each with a text."""

from roomtables.checker import lets_by
from roomtables.errors import NoBack, NoGiven, NoName, NoRow, NoText
from roomtables.figures import read_whole
from roomtables.givens import given_of, is_of_kind
from roomtables.notes import read_cell, read_paper, show_cell, show_paper, show_road, show_rule, show_worth
from roomtables.orders import order_or_ring
from roomtables.papers import fewest, paper_of
from roomtables.parts import is_lettered
from roomtables.placed import placed
from roomtables.reader import read
from roomtables.roads import road
from roomtables.sums import kind_of
from roomtables.tables import answer
from roomtables.texts import show
from roomtables.turned import exchanged
from roomtables.words import WORDS

# How many words a row with this first one has at least and at most, None where there may be any more.
COUNTS = {
    "give": (3, 3), "exchange": (3, None), "put": (3, 3), "back": (1, 1), "answer": (3, 3), "ring": (2, 2),
    "rooms": (2, 2), "paper": (3, 3), "look": (4, None), "road": (3, 3), "program": (1, 1),
}

# How many figures a number of a row may have, and one of a thing; the least one that has too many to be given.
PLACE_FIGURES = 2
THING_FIGURES = 100
GIVEN_BOUND = 10 ** 30


def words_of(row):
    """The words of a row; NoRow where it is none by its first word or how many it has."""
    if not isinstance(row, str):
        raise NoRow("a row is a text")
    words = row.split(" ")
    if words[0] not in COUNTS:
        raise NoRow("there is no such row")
    least, most = COUNTS[words[0]]
    if len(words) < least or (most is not None and len(words) > most):
        raise NoRow("the row has another number of words")
    return words


def read_word(text):
    """The word of the six that a text is."""
    if text not in WORDS:
        raise NoText(0)
    return text


def read_place(text):
    """The number from 0 on that a text writes with one figure or two."""
    number = read_whole(text, PLACE_FIGURES)
    if number < 0:
        raise NoText(0)
    return number


def read_thing(kind, text):
    """The thing that a text writes for a need of a kind, be it one or not."""
    if kind == "number":
        return read_whole(text, THING_FIGURES)
    if kind == "text":
        if text != "-" and (text == "" or not is_lettered(text)):
            raise NoText(0)
        return "" if text == "-" else text
    numbers = [] if text == "-" else [read_whole(one, THING_FIGURES) for one in text.split(",")]
    return numbers if kind == "row" else tuple(numbers)


def is_great(thing):
    """Whether a thing is or has a number of too many figures to be given."""
    if isinstance(thing, str):
        return False
    numbers = [thing] if isinstance(thing, int) else thing
    return any(abs(number) >= GIVEN_BOUND for number in numbers)


def function_of(desk, name):
    """The number of the function of this name."""
    names = [function[0] for function in desk.program[1]]
    if name not in names:
        raise NoName("there is no such function")
    return names.index(name)


def given_at(desk):
    """The given that the desk keeps; NoGiven where a need has nothing given."""
    return given_of(desk.program, desk.things)


def say_give(desk, words):
    """Gives a need its thing."""
    name, text = words
    kind = kind_of(name, desk.program[0])
    if kind is None:
        raise NoName("there is no such need")
    thing = read_thing(kind, text)
    if is_great(thing) or not is_of_kind(thing, kind):
        raise NoGiven("there can be no such thing for the need")
    return desk.turn(desk.program, {**desk.things, name: thing})


def say_exchange(desk, words):
    """Exchanges the parameters of a function."""
    function = function_of(desk, words[0])
    order = tuple([read_place(word) for word in words[1:]])
    return desk.turn(exchanged(desk.program, function, order), desk.things)


def say_put(desk, words):
    """Puts a call of a function's body in place."""
    function = function_of(desk, words[0])
    return desk.turn(placed(desk.program, function, read_place(words[1])), desk.things)


def say_back(desk, words):
    """Takes the last thing that was done back."""
    return desk.turn_back()


def say_answer(desk, words):
    """The worth of an ask."""
    word, ask = read_word(words[0]), read_cell(desk.program, words[1])
    return show_worth(answer(desk.program, given_at(desk), ask, word))


def say_ring(desk, words):
    """The ring that an ask hangs on, or none."""
    ask = read_cell(desk.program, words[0])
    kind, cells = order_or_ring(desk.program, given_at(desk), ask)
    return " ".join([show_cell(desk.program, cell) for cell in cells]) if kind == "ring" else "none"


def say_rooms(desk, words):
    """The rule with the fewest rooms, and how many these are."""
    ask = read_cell(desk.program, words[0])
    rule, many = fewest(desk.program, given_at(desk), ask)
    return f"{show_rule(rule)}: {many}"


def say_paper(desk, words):
    """The tight paper by the rule with the fewest rooms."""
    word, ask = read_word(words[0]), read_cell(desk.program, words[1])
    given = given_at(desk)
    rule, many = fewest(desk.program, given, ask)
    return show_paper(desk.program, paper_of(desk.program, given, ask, word, rule, "tight"))


def say_look(desk, words):
    """Whether a paper is let by."""
    word, ask = read_word(words[0]), read_cell(desk.program, words[1])
    # The paper's own blanks have parted it into words, too.
    paper = read_paper(desk.program, " ".join(words[2:]))
    return "yes" if lets_by(desk.program, given_at(desk), ask, word, paper) else "no"


def say_road(desk, words):
    """The road of an ask, or none."""
    word, ask = read_word(words[0]), read_cell(desk.program, words[1])
    told = road(desk.program, given_at(desk), ask, word)
    return "none" if told is None else show_road(desk.program, told)


def say_program(desk, words):
    """The text of the program."""
    return show(desk.program)


ROWS = {
    "give": say_give, "exchange": say_exchange, "put": say_put, "back": say_back, "answer": say_answer,
    "ring": say_ring, "rooms": say_rooms, "paper": say_paper, "look": say_look, "road": say_road,
    "program": say_program,
}


class Desk:
    """A desk with a program, read from a text, and the things that are given for its needs."""

    def __init__(self, text):
        self.program = read(text)
        self.things = {}
        self.past = []

    def say(self, row):
        """The answer to a row."""
        words = words_of(row)
        action = ROWS[words[0]]
        return action(self, words[1:])

    def turn(self, program, things):
        """Keeps another program and other things, and remembers the ones that were kept."""
        self.past.append((self.program, self.things))
        self.program = program
        self.things = things
        return "ok"

    def turn_back(self):
        """Keeps again what was kept ahead of the last turn."""
        if self.past == []:
            raise NoBack("there is nothing to be taken back")
        self.program, self.things = self.past.pop()
        return "ok"
