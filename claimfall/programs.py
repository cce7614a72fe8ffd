"""Programs: what is one, and the first reason why a thing is none."""

from claimfall.errors import BadProgram
from claimfall.shapes import has_shape, is_head, is_quality, names_in

MOST_FUNCTIONS = 8
MOST_OPENS = 8
DEEPEST = 60
MOST_BODIES = 2000
MOST_PATHS = 200


def check_program(program):
    """Raise BadProgram with the first fault of a thing that is no program."""
    if not _is_whole(program):
        raise BadProgram(-1, "not a program")
    _, functions, opens = program
    _check_heads(functions)
    for at in range(len(functions)):
        _check_body(functions, at)
    _check_opens(functions, opens)


def index_of(program, name):
    """Return the number of the function with this name, or -1."""
    return _place_of(program[1], name)


def open_of(program, name):
    """Return the number of the open with this name, or -1."""
    for place, (opened, _) in enumerate(program[2]):
        if opened == name:
            return place
    return -1


def _place_of(functions, name):
    for at, function in enumerate(functions):
        if function[1] == name:
            return at
    return -1


def _is_whole(program):
    if not isinstance(program, tuple) or len(program) != 3 or program[0] != "program":
        return False
    return _has_items(program[1], MOST_FUNCTIONS) and _has_items(program[2], MOST_OPENS)


def _has_items(thing, most):
    return isinstance(thing, tuple) and 1 <= len(thing) <= most


def _check_heads(functions):
    for at, function in enumerate(functions):
        if not is_head(function):
            raise BadProgram(at, "bad function")
        if _place_of(functions[:at], function[1]) != -1:
            raise BadProgram(at, "name twice")


def _check_body(functions, at):
    """Walk through the body of a function, and then look at the number of its paths."""
    _, _, params, outermost = functions[at]
    # Rows (body, the kinds of the names known in it, its depth, the ways by which paths come to it).
    waiting = [(outermost, dict(params), 1, 1)]
    bodies = 0
    paths = 0
    while waiting:
        body, known, depth, ways = waiting.pop()
        bodies += 1
        if depth > DEEPEST or bodies > MOST_BODIES or not has_shape("body", body):
            raise BadProgram(at, "bad body")
        reason = _fault(functions, body, known)
        if reason is not None:
            raise BadProgram(at, reason)
        if body[0] in ("give", "never"):
            paths += ways
        waiting.extend(_rows_within(body, known, depth + 1, ways))
    if paths > MOST_PATHS:
        raise BadProgram(at, "too many paths")


def _rows_within(body, known, depth, ways):
    """Return the rows of the bodies in a body, the one to be walked first as the last one."""
    word = body[0]
    if word == "let":
        return [(body[3], {**known, body[1]: "int"}, depth, ways)]
    if word == "if":
        # Where s and t are not the same, s is less or greater: two ways through the second body.
        second = 2 * ways if body[1][0] == "same" else ways
        return [(body[3], known, depth, second), (body[2], known, depth, ways)]
    if word in ("claim", "put"):
        return [(body[-1], known, depth, ways)]
    return []


def _fault(functions, body, known):
    """Return the reason to refuse what stands in a body of the right shape, or None."""
    if body[0] == "let" and body[2][0] == "call":
        reason = _call_fault(functions, body[2])
        if reason is not None:
            return reason
    if any([known.get(name) != kind for kind, name in names_in(body)]):
        return "unknown name"
    if body[0] == "let" and known.get(body[1]) == "array":
        return "name is an array"
    return None


def _call_fault(functions, call):
    _, name, arguments = call
    callee = _place_of(functions, name)
    if callee == -1:
        return "unknown function"
    asked = [kind for _, kind in functions[callee][2]]
    if asked != ["array" if argument[0] == "array" else "int" for argument in arguments]:
        return "wrong arguments"
    return None


def _check_opens(functions, opens):
    for place, pair in enumerate(opens):
        if not _is_opening(functions, pair) or pair[0] in [ahead[0] for ahead in opens[:place]]:
            raise BadProgram(place, "bad open")


def _is_opening(functions, thing):
    if not isinstance(thing, tuple) or len(thing) != 2 or not isinstance(thing[1], tuple):
        return False
    at = _place_of(functions, thing[0])
    if at == -1:
        return False
    # A promise speaks of place 0 and of the arguments.
    places = len(functions[at][2]) + 1
    return all([is_quality(promise, places) for promise in thing[1]])
