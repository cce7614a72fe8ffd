"""Slices: which functions call which, and the parts of a program that can be looked at by themselves."""

from claimfall.programs import index_of
from claimfall.shapes import bodies_in


def callees(program, f):
    """Return the numbers of the functions that a function calls, ascending."""
    found = {}
    waiting = [program[1][f][3]]
    while waiting:
        body = waiting.pop()
        if body[0] == "let" and body[2][0] == "call":
            found[index_of(program, body[2][1])] = True
        waiting.extend(bodies_in(body))
    return tuple(sorted(found))


def reached(program):
    """Return the numbers of the functions that are open or called from these over any calls, ascending."""
    opened = [index_of(program, name) for name, _ in program[2]]
    return spread(opened, _calls(program))


def sliced(program):
    """Return the program of the reached functions."""
    return part_of(program, reached(program))


def parts(program):
    """Return the greatest sets of joined functions, ordered by their first ones."""
    calls = _calls(program)
    joined = [list(row) for row in calls]
    for f, row in enumerate(calls):
        for g in row:
            joined[g].append(f)
    found = []
    for f in range(len(joined)):
        part = spread([f], joined)
        if part[0] == f:
            found.append(part)
    return tuple(found)


def part_of(program, part):
    """Return the program of the functions with these numbers, and of their opens."""
    functions = tuple([program[1][f] for f in part])
    return ("program", functions, tuple([pair for pair in program[2] if index_of(program, pair[0]) in part]))


def called_from(program):
    """List for each function the numbers of those that are called from it over any calls, ascending."""
    calls = _calls(program)
    return [spread(row, calls) for row in calls]


def spread(starts, rows):
    """Return the numbers to which one comes from some numbers by way of rows of numbers, with the starts, ascending."""
    found = {f: True for f in starts}
    waiting = list(found)
    while waiting:
        f = waiting.pop()
        for g in rows[f]:
            if g not in found:
                found[g] = True
                waiting.append(g)
    return tuple(sorted(found))


def _calls(program):
    return [callees(program, f) for f in range(len(program[1]))]
