"""Runs: what happens when a function is called from outside, and what this shows of its qualities."""

from claimfall.assignments import candidates
from claimfall.errors import BadEntry, BadState, TooGreat
from claimfall.facts import fulfil
from claimfall.machine import Run, codes_of
from claimfall.programs import index_of, open_of
from claimfall.shapes import is_number, is_row

MOST_CALLS = 20000


def check_call(program, thing):
    """Raise BadEntry with the first wrong item of a thing that is no call, BadState if it breaks a promise."""
    if not is_row(thing, 4) or thing[0] != "call":
        raise BadEntry(0)
    _, name, arguments, outside = thing
    place = open_of(program, name)
    if place == -1:
        raise BadEntry(1)
    params = program[1][index_of(program, name)][2]
    if not is_row(arguments, len(params)):
        raise BadEntry(2)
    if not all([_is_argument(kind, argument) for (_, kind), argument in zip(params, arguments)]):
        raise BadEntry(2)
    if not _are_numbers(outside):
        raise BadEntry(3)
    if not _keeps(program, place, arguments):
        raise BadState("the call does not keep what was promised")


def run(program, call, most):
    """Return the pair (end, steps) of a call that makes at most so many steps."""
    whole = _gone(program, codes_of(program), call, most)
    return whole.end, whole.steps


def trail(program, call, most):
    """Return the activations of a call, in the order in which they begin."""
    whole = _gone(program, codes_of(program), call, most)
    return tuple([
        ("act", each.f, -1 if each.result is None else each.path, tuple(each.unknowns)) for each in whole.begun
    ])


def broken(program, numbers, call, most):
    """Return the assignment of the candidates that the run of a call breaks."""
    apart = {}
    _spread(apart, _gone(program, codes_of(program), call, most))
    return _broken(program, numbers, apart)


def broken_within(program, numbers, bounds):
    """Return the assignment of the candidates that the run of some call within bounds breaks."""
    apart = {}
    codes = codes_of(program)
    for call in _calls_within(program, bounds):
        _spread(apart, _gone(program, codes, call, bounds[4]))
    return _broken(program, numbers, apart)


def wrong_call(program, bounds):
    """Return the pair (call, end) of the first call within bounds that goes wrong, or None."""
    codes = codes_of(program)
    for call in _calls_within(program, bounds):
        end = _gone(program, codes, call, bounds[4]).end
        if end[0] == "wrong":
            return call, end
    return None


def _gone(program, codes, call, most):
    whole = Run(program, codes, call)
    whole.go(most)
    return whole


def _is_argument(kind, thing):
    return is_number(thing) if kind == "int" else _are_numbers(thing)


def _are_numbers(thing):
    return isinstance(thing, tuple) and all([is_number(part) for part in thing])


def _keeps(program, place, arguments):
    """Tell whether arguments keep the promises of an open."""
    handed = [len(argument) if isinstance(argument, tuple) else argument for argument in arguments]
    return fulfil((0, *handed), program[2][place][1])


def _spread(apart, whole):
    """Keep for each function and part, in rows, how far each place is above each other one at the most."""
    for each in whole.begun:
        handed = each.places()
        _keep_most(apart, (each.f, 0), handed)
        if each.result is not None:
            _keep_most(apart, (each.f, 1), [*handed, each.result])


def _keep_most(apart, key, handed):
    if key not in apart:
        apart[key] = [[first - second for second in handed] for first in handed]
    for row, first in zip(apart[key], handed):
        for j, second in enumerate(handed):
            if first - second > row[j]:
                row[j] = first - second


def _broken(program, numbers, apart):
    return tuple([
        tuple([
            tuple([(i, j, c) for i, j, c in row if (f, part) in apart and apart[f, part][i][j] > c])
            for part, row in enumerate(pair)
        ])
        for f, pair in enumerate(candidates(program, numbers))
    ])


def _calls_within(program, bounds):
    """List the calls within bounds that keep their promises, in their order."""
    low, high, longest, draws, _ = bounds
    kinds = [[kind for _, kind in program[1][index_of(program, name)][2]] for name, _ in program[2]]
    many = high - low + 1
    total = sum([_count(many, row, longest) * _count_rows(many, draws) for row in kinds])
    if total > MOST_CALLS:
        raise TooGreat("there are too many calls within these bounds")
    found = []
    for place, (name, _) in enumerate(program[2]):
        choices = _all_arguments(low, high, kinds[place], longest)
        kept = [arguments for arguments in choices if _keeps(program, place, arguments)]
        for outside in _all_rows(low, high, draws):
            found.extend([("call", name, arguments, outside) for arguments in kept])
    return found


def _count(many, kinds, longest):
    """Return how many rows of arguments there are, so many integers being within bounds."""
    total = 1
    for kind in kinds:
        total *= many if kind == "int" else _count_rows(many, longest)
    return total


def _count_rows(many, longest):
    """Return how many tuples of integers there are that are not too long."""
    total = 0
    longer = 1
    for _ in range(longest + 1):
        total += longer
        longer *= many
    return total


def _all_arguments(low, high, kinds, longest):
    found = [()]
    for kind in kinds:
        choices = list(range(low, high + 1)) if kind == "int" else _all_rows(low, high, longest)
        found = [(*row, choice) for row in found for choice in choices]
    return found


def _all_rows(low, high, longest):
    """List the tuples of integers that are not too long, the shorter ones first."""
    found = [()]
    longer = [()]
    for _ in range(longest):
        longer = [(*row, number) for row in longer for number in range(low, high + 1)]
        found.extend(longer)
    return found
