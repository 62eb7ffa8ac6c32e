"""Programs read from texts, just as they are written, or refused."""

from roomtables.errors import NoText
from roomtables.figures import whole_of
from roomtables.parts import LETTERS
from roomtables.programs import KINDS, is_name, program_of

MOST_FIGURES = 30
MOST_BRACKETS = 40

# What a word makes, and then what is due behind it, one by one.
FORMS = {
    "size": ("sum", "need"), "at": ("sum", "need", "sum"),
    "kids": ("sum", "need", "sum"), "kid": ("sum", "need", "sum", "sum"),
    "full": ("sum", "sum"), "with": ("sum", "sum", "sum"), "without": ("sum", "sum", "sum"), "many": ("sum", "sum"),
    "plus": ("sum", "sum", "sum"), "less": ("sum", "sum", "sum"), "times": ("sum", "sum", "sum"),
    "half": ("sum", "sum"), "rest": ("sum", "sum", "sum"),
    "lesser": ("sum", "sum", "sum"), "greater": ("sum", "sum", "sum"),
    "below": ("cond", "sum", "sum"), "same": ("cond", "sum", "sum"), "has": ("cond", "sum", "sum"),
    "not": ("cond", "cond"), "and": ("cond", "cond", "cond"), "or": ("cond", "cond", "cond"),
    "gain": ("body", "sum"), "none": ("body",), "call": ("body", "function"), "both": ("body", "body", "body"),
    "choose": ("body",), "each": ("body", "sum", "sum", "body"), "all": ("body", "sum", "sum", "body"),
    "if": ("body", "cond", "body", "body"),
}

# What may stand behind all that, so often as one likes.
MORE = {"call": "sum", "choose": "body"}


class Scanner:
    """A line that is gone through from left to right; what isn't of the form is refused with its number.

    The names are those that the text's fun lines have.
    """

    def __init__(self, text, number, names):
        self.text = text
        self.number = number
        self.names = names
        self.place = 0
        self.within = 0

    def is_next(self, signs):
        """Whether these signs stand next."""
        return self.text.startswith(signs, self.place)

    def take(self, signs):
        """Goes past these signs, which must stand next."""
        if not self.is_next(signs):
            raise NoText(self.number)
        self.place += len(signs)

    def enter(self):
        """Goes past the bracket at which something begins."""
        self.take("(")
        self.within += 1
        if self.within > MOST_BRACKETS:
            raise NoText(self.number)

    def leave(self):
        """Goes past the bracket at which something ends."""
        self.take(")")
        self.within -= 1

    def token(self):
        """Goes past all signs up to the next blank or bracket, and tells them."""
        start = self.place
        while self.place < len(self.text) and self.text[self.place] not in (" ", "(", ")"):
            self.place += 1
        return self.text[start:self.place]

    def end(self):
        """Refuses what still stands there."""
        if self.place < len(self.text):
            raise NoText(self.number)


def read(text):
    """The program that a text writes."""
    if not isinstance(text, str):
        raise NoText(0)
    lines = text.split("\n")
    # A call may be of a fun line behind it, and of one that isn't of the form.
    names = [line[4:].partition(" ")[0] for line in lines if line.startswith("fun ")]
    needs = []
    functions = []
    for number, line in enumerate(lines):
        if line.startswith("fun "):
            functions.append(read_function(Scanner(line, number, names)))
        elif functions == []:
            needs.append(read_need(line, number))
        else:
            raise NoText(number)
    return program_of(tuple(needs), tuple(functions))


def read_need(line, number):
    """The need that a line writes."""
    kind, blank, name = line.partition(" ")
    if kind not in KINDS or not is_name(name):
        raise NoText(number)
    return (name, kind)


def read_function(line):
    """The function that a line writes."""
    line.take("fun ")
    name = read_name(line)
    line.take(" ")
    mosts = read_mosts(line)
    line.take(" ")
    body = read_part(line, "body")
    line.end()
    return (name, mosts, body)


def read_name(line):
    """The name that stands next."""
    name = line.token()
    if not is_name(name):
        raise NoText(line.number)
    return name


def read_mosts(line):
    """The mosts of a function, in their brackets."""
    line.enter()
    mosts = []
    if not line.is_next(")"):
        mosts.append(read_part(line, "sum"))
        mosts.extend(read_more(line, "sum"))
    line.leave()
    return tuple(mosts)


def read_more(line, due):
    """All parts that stand next, each behind a blank."""
    found = []
    while line.is_next(" "):
        line.take(" ")
        found.append(read_part(line, due))
    return found


def read_part(line, due):
    """What is due next: a sum, a condition, a body, a need's name, or a function by its name."""
    if due == "need":
        return read_name(line)
    if due == "function":
        return read_called(line)
    if due == "sum" and not line.is_next("("):
        return read_bare(line)
    line.enter()
    word = line.token()
    if word not in FORMS or FORMS[word][0] != due:
        raise NoText(line.number)
    told = [word]
    for inner in FORMS[word][1:]:
        line.take(" ")
        told.append(read_part(line, inner))
    if word in MORE:
        told.append(tuple(read_more(line, MORE[word])))
    line.leave()
    return tuple(told)


def read_called(line):
    """The number of the function whose name stands next."""
    name = line.token()
    if name not in line.names:
        raise NoText(line.number)
    return line.names.index(name)


def read_bare(line):
    """The sum without brackets that stands next: a num, an own number or a need."""
    token = line.token()
    number = whole_of(token, MOST_FIGURES)
    if number is not None:
        return ("num", number)
    if len(token) == 1 and token in LETTERS:
        return ("own", LETTERS.index(token))
    if is_name(token):
        return ("need", token)
    raise NoText(line.number)
