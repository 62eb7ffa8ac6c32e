"""Programs turned: parameters exchanged, functions moved, and cells likewise."""

from roomtables.errors import NoTurn
from roomtables.parts import is_tuple, is_whole, parts_in, with_parts


def exchanged(program, f, order):
    """A program with the places of a function in another order."""
    needs, functions = program
    check_function(functions, f)
    check_order(order, len(functions[f][1]))
    told = []
    for number, (name, mosts, body) in enumerate(functions):
        if number == f:
            mosts, body = in_order(mosts, order), with_owns(body, order)
        told.append((name, mosts, with_args(body, f, order)))
    return (needs, tuple(told))


def moved(program, order):
    """A program with its functions in another order."""
    needs, functions = program
    check_order(order, len(functions))
    told = [(name, mosts, with_calls(body, order)) for name, mosts, body in functions]
    return (needs, in_order(told, order))


def cell_exchanged(cell, f, order):
    """A cell as it is in the program with the places of a function in another order."""
    function, args = cell
    return (function, in_order(args, order)) if function == f else cell


def cell_moved(cell, order):
    """A cell as it is in the program with its functions in another order."""
    function, args = cell
    return (order[function], args)


def check_function(functions, thing):
    """Refuses what is no number of a function."""
    if not is_whole(thing) or not 0 <= thing < len(functions):
        raise NoTurn("there is no such function")


def check_order(thing, many):
    """Refuses what is no order of so many places."""
    if not is_tuple(thing, many, many) or not all(is_whole(place) for place in thing):
        raise NoTurn("the order is none")
    if sorted(thing) != list(range(many)):
        raise NoTurn("the order has not each place once")


def in_order(things, order):
    """Things in another order, a tuple: the one at a place comes to where the order tells."""
    told = list(things)
    for thing, place in zip(things, order):
        told[place] = thing
    return tuple(told)


def with_owns(part, order):
    """A part with the own numbers of the places exchanged."""
    if part[0] == "own":
        # The turns' own numbers come behind the places.
        return ("own", order[part[1]]) if part[1] < len(order) else part
    return with_parts(part, [with_owns(inner, order) for inner in parts_in(part)])


def with_args(part, f, order):
    """A part with the args in all calls of a function exchanged."""
    inner = [with_args(one, f, order) for one in parts_in(part)]
    return with_parts(part, in_order(inner, order) if part[0] == "call" and part[1] == f else inner)


def with_calls(part, order):
    """A part with the numbers of the called functions moved."""
    if part[0] == "call":
        return ("call", order[part[1]], part[2])
    return with_parts(part, [with_calls(inner, order) for inner in parts_in(part)])
