"""Cells, worths, papers, rules and roads written as texts, and cells, worths and papers read from them."""

from roomtables.errors import NoText
from roomtables.figures import read_whole

FAULTS = ("place", "nought", "great", "wide", "beyond")

MOST_FIGURES = 400


def show_cell(program, cell):
    """The text of a cell."""
    function, args = cell
    return f"{program[1][function][0]}({show_numbers(args)})"


def show_numbers(numbers):
    """The text of numbers, commas between."""
    return ",".join([str(number) for number in numbers])


def show_worth(worth):
    """The text of a worth or a fault."""
    if worth is None:
        return "none"
    if isinstance(worth, str):
        return "!" + worth
    if isinstance(worth, tuple):
        return f"{worth[0]}x{worth[1]}"
    return str(worth)


def show_paper(program, paper):
    """The text of a paper."""
    return "; ".join([f"{show_cell(program, cell)} {room} {show_worth(worth)}" for cell, room, worth in paper])


def show_rule(rule):
    """The text of a rule."""
    return ", ".join([f"{word} {place}" for word, place in rule]) if rule != () else "-"


def show_road(program, one):
    """The text of a road."""
    return "; ".join([f"{show_cell(program, cell)}:{show_numbers(picks)}" for cell, picks in one])


def read_cell(program, text):
    """The cell that a text writes, of any function of a program, with one whole number or more."""
    name, bracket, numbers = text_of(text).partition("(")
    names = [function[0] for function in program[1]]
    if name not in names or not numbers.endswith(")"):
        raise NoText(0)
    args = [read_whole(number, MOST_FIGURES) for number in numbers[:-1].split(",")]
    return (names.index(name), tuple(args))


def read_worth(text):
    """The worth or fault that a text writes."""
    if text_of(text) == "none":
        return None
    if text.startswith("!"):
        return read_fault(text[1:])
    first, cross, second = text.partition("x")
    if cross == "":
        return read_whole(text, MOST_FIGURES)
    return (read_whole(first, MOST_FIGURES), read_whole(second, MOST_FIGURES))


def read_paper(program, text):
    """The paper that a text writes."""
    if text_of(text) == "":
        return []
    return [read_row(program, row) for row in text.split("; ")]


def read_row(program, text):
    """The row of a paper that a text writes."""
    words = text.split(" ")
    if len(words) != 3:
        raise NoText(0)
    return (read_cell(program, words[0]), read_whole(words[1], MOST_FIGURES), read_worth(words[2]))


def read_fault(text):
    """The fault that a text is."""
    if text not in FAULTS:
        raise NoText(0)
    return text


def text_of(thing):
    """A thing that is a text; others are refused."""
    if not isinstance(thing, str):
        raise NoText(0)
    return thing
