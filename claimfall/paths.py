"""Paths: the ways through the body of a function, and what comes on each of them."""


def paths(program, f):
    """Return the tuple of the paths of a function."""
    return tuple([items for items, _ in ways(program[1][f])])


def unknowns(program, f, path):
    """Return how many unknowns a path of a function has."""
    return ways(program[1][f])[path][1]


def ways(function):
    """List for each path of a function the pair (its items, how many unknowns it has)."""
    _, _, params, outermost = function
    # A known integer is the term (unknown, number), an array the term of its length.
    known = {name: (place, 0) for place, (name, _) in enumerate(params, start=1)}
    lengths = tuple([("fact", 0, place, 0) for place, (_, kind) in enumerate(params, start=1) if kind == "array"])
    found = []
    # Rows (body, what is known in it, the items ahead, how many unknowns there are so far).
    waiting = [(outermost, known, lengths, len(params) + 1)]
    while waiting:
        body, known, items, many = waiting.pop()
        if body[0] == "give":
            found.append(((*items, ("give", *_term(known, body[1]))), many))
        elif body[0] == "never":
            found.append(((*items, ("look", 0, 0, -1)), many))
        else:
            waiting.extend(_rows_within(body, known, items, many))
    return found


def _rows_within(body, known, items, many):
    """Return the rows of the bodies in a body, the one to be gone through first as the last one."""
    word = body[0]
    if word == "let":
        term, more = _value(known, body[2], many)
        grown = 0 if body[2][0] in ("num", "name", "len") else 1
        return [(body[3], {**known, body[1]: term}, (*items, *more), many + grown)]
    if word == "if":
        first, *others = _cases(known, body[1])
        rows = [(body[3], known, (*items, *case), many) for case in others]
        rows.reverse()
        return [*rows, (body[2], known, (*items, *first), many)]
    more = _index_looks(known, body[1], body[2]) if word == "put" else _claim_looks(known, body[1])
    return [(body[-1], known, (*items, *more), many)]


def _value(known, value, new):
    """Return the term for which the name of a let stands, new being the next unknown, and the items of its value."""
    word = value[0]
    if word == "at":
        return (new, 0), _index_looks(known, value[1], value[2])
    if word == "call":
        terms = tuple([_term(known, argument) for argument in value[2]])
        return (new, 0), [("call", value[1], terms, new)]
    if word == "middle":
        s, t = _term(known, value[1]), _term(known, value[2])
        half = (new, 0)
        return half, [("look", *_at_most(s, t)), ("fact", *_at_most(s, half)), ("fact", *_at_most(half, t))]
    if word == "any":
        return (new, 0), []
    return _term(known, value), []


def _cases(known, condition):
    """List the facts of each way through an if: first that of the first body, then those of the second."""
    word, s, t = condition[0], _term(known, condition[1]), _term(known, condition[2])
    less = [("fact", *_at_most(s, _moved(t, -1)))]
    greater = [("fact", *_at_most(t, _moved(s, -1)))]
    most = ("fact", *_at_most(s, t))
    if word == "most":
        return [[most], greater]
    return [[most, ("fact", *_at_most(t, s))], less, greater]


def _claim_looks(known, condition):
    word, s, t = condition[0], _term(known, condition[1]), _term(known, condition[2])
    if word == "most":
        return [("look", *_at_most(s, t))]
    return [("look", *_at_most(s, t)), ("look", *_at_most(t, s))]


def _index_looks(known, array, index):
    at = _term(known, index)
    return [("look", *_at_most((0, 0), at)), ("look", *_at_most(at, _moved(known[array], -1)))]


def _term(known, term):
    """Return the pair (unknown, number) for which a term stands, or an array, by its length."""
    word = term[0]
    if word == "num":
        return (0, term[1])
    if word == "array":
        return known[term[1]]
    return _moved(known[term[1]], term[2])


def _moved(term, more):
    unknown, number = term
    return (unknown, number + more)


def _at_most(s, t):
    """Return the fact that a pair (unknown, number) is at most another one."""
    return (s[0], t[0], t[1] - s[1])
