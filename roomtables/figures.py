"""Whole numbers read as they are written."""

from roomtables.errors import NoText

FIGURES = "0123456789"


def whole_of(text, most):
    """The whole number that a text writes with so many figures at most, None where it isn't so written."""
    figures = text[1:] if text.startswith("-") else text
    if not 1 <= len(figures) <= most or not all(sign in FIGURES for sign in figures):
        return None
    # A nought ahead stands in 0 alone, which has no sign.
    if figures.startswith("0") and text != "0":
        return None
    return int(text)


def read_whole(text, most):
    """The whole number that a text writes with so many figures at most; NoText where it isn't so written."""
    number = whole_of(text, most)
    if number is None:
        raise NoText(0)
    return number
