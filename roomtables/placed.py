"""Programs turned: a call put in place, the called function's body where the call stands."""

from roomtables.errors import NoProgram, NoTurn
from roomtables.parts import is_whole, parts_in, with_parts
from roomtables.programs import program_of
from roomtables.readings import calls_many
from roomtables.turned import check_function


def placed(program, f, n):
    """A program with the n-th call of a function's body put in place."""
    needs, functions = program
    check_function(functions, f)
    name, mosts, body = functions[f]
    if not is_whole(n) or not 0 <= n < calls_many(body):
        raise NoTurn("there is no such call")
    turned = (name, mosts, with_call_placed(body, n, len(mosts), functions))
    try:
        return program_of(needs, functions[:f] + (turned,) + functions[f + 1:])
    except NoProgram:
        raise NoTurn("the program would be none") from None


def with_call_placed(part, n, many, functions):
    """A part with its n-th call put in place, where there are so many own numbers."""
    if part[0] == "call":
        return in_place(part, many, functions)
    inner = list(parts_in(part))
    at = 0
    while n >= calls_many(inner[at]):
        n -= calls_many(inner[at])
        at += 1
    # Calls stand in the bodies alone, so in an each or an all it is the one that has the turn.
    turns = 1 if part[0] == "each" or part[0] == "all" else 0
    inner[at] = with_call_placed(inner[at], n, many + turns, functions)
    return with_parts(part, inner)


def in_place(call, many, functions):
    """What stands for a call that is put in place, where there are so many own numbers."""
    word, function, sums = call
    name, mosts, body = functions[function]
    return ("if", all_there(sums, mosts), filled(body, sums, many), call)


def all_there(sums, mosts):
    """The condition that each arg is there."""
    one, most = sums[0], mosts[0]
    first = ("not", ("or", ("below", one, ("num", 0)), ("below", most, one)))
    return first if len(sums) == 1 else ("and", first, all_there(sums[1:], mosts[1:]))


def filled(part, sums, many):
    """A part with sums put in for the first own numbers, and the others, those of turns, from so many on."""
    if part[0] == "own":
        return sums[part[1]] if part[1] < len(sums) else ("own", part[1] - len(sums) + many)
    return with_parts(part, [filled(inner, sums, many) for inner in parts_in(part)])
