"""Programs written as texts."""

from roomtables.parts import LETTERS


def show(program):
    """The text of a program."""
    needs, functions = program
    names = [name for name, mosts, body in functions]
    lines = [f"{kind} {name}" for name, kind in needs]
    for name, mosts, body in functions:
        sums = " ".join([show_part(most, names) for most in mosts])
        lines.append(f"fun {name} ({sums}) {show_part(body, names)}")
    return "\n".join(lines)


def show_part(part, names):
    """The text of a sum, a condition or a body, by the functions' names."""
    word = part[0]
    if word == "num":
        return str(part[1])
    if word == "own":
        return LETTERS[part[1]]
    if word == "need":
        return part[1]
    if word == "call":
        things = [names[part[1]]] + list(part[2])
    elif word == "choose":
        things = list(part[1])
    else:
        things = list(part[1:])
    # A name stands for itself.
    texts = [thing if isinstance(thing, str) else show_part(thing, names) for thing in things]
    return "(" + " ".join([word] + texts) + ")"
