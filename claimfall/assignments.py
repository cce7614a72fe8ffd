"""Assignments: the qualities of each function, the facts that they give, and what has to follow from these."""

from claimfall.facts import Sums
from claimfall.paths import ways
from claimfall.programs import index_of
from claimfall.shapes import is_quality

# In the pair of a function in an assignment.
PRE = 0
POST = 1


def candidates(program, numbers):
    """Return the assignment that has all candidates for numbers."""
    return tuple([
        (_candidates(places(function), numbers), _candidates(places(function) + 1, numbers))
        for function in program[1]
    ])


def facts_at(program, f, path, item, assignment):
    """Return the facts that are there ahead of an item."""
    return tuple(facts_ahead(program, f, _items(program, f, path), item, assignment))


def dues_at(program, f, path, item, assignment):
    """Return the facts that must follow at an item."""
    return tuple(dues_of(program, f, _items(program, f, path)[item], assignment))


def open_facts(program, place):
    """Return the facts of the promises of an open, and those of the lengths of its function's arrays."""
    name, promises = program[2][place]
    _, _, params, _ = program[1][index_of(program, name)]
    lengths = [(0, at, 0) for at, (_, kind) in enumerate(params, start=1) if kind == "array"]
    return (*promises, *lengths)


def is_kept(program, assignment):
    """Tell whether an assignment is kept."""
    for place, (name, _) in enumerate(program[2]):
        sums = Sums()
        sums.take(open_facts(program, place))
        if not all([sums.shows(due) for due in assignment[index_of(program, name)][PRE]]):
            return False
    return unproved(program, assignment, ("call", "give")) is None


def holds(program, assignment):
    """Tell whether each look of each path follows with an assignment."""
    return unproved(program, assignment, ("look",)) is None


def unproved(program, assignment, words):
    """Return the place (function, path, item) of the first item of these words at which not all follows, or None."""
    for f, function in enumerate(program[1]):
        for path, (items, _) in enumerate(ways(function)):
            item = _unproved_item(program, f, items, assignment, words)
            if item is not None:
                return (f, path, item)
    return None


def _unproved_item(program, f, items, assignment, words):
    sums = Sums()
    sums.take(assignment[f][PRE])
    for at, item in enumerate(items):
        if item[0] in words and not all([sums.shows(due) for due in dues_of(program, f, item, assignment)]):
            return at
        sums.take(facts_of(program, item, assignment))
    return None


def places(function):
    """Return how many places a function has, without the result."""
    return len(function[2]) + 1


def facts_ahead(program, f, items, item, assignment):
    """List the facts that are there ahead of an item, the path being told by its items."""
    facts = list(assignment[f][PRE])
    for ahead in items[:item]:
        facts.extend(facts_of(program, ahead, assignment))
    return facts


def facts_of(program, item, assignment):
    """List the facts that are there behind an item because of it."""
    if item[0] == "call":
        _, name, terms, result = item
        return with_terms(assignment[index_of(program, name)][POST], ((0, 0), *terms, (result, 0)))
    if item[0] == "give":
        return []
    return [item[1:]]


def dues_of(program, f, item, assignment):
    """List the facts that must follow at an item."""
    if item[0] == "look":
        return [item[1:]]
    if item[0] == "fact":
        return []
    owner, part = owed(program, f, item)
    return with_terms(assignment[owner][part], handed(program, f, item))


def owed(program, f, item):
    """Return the pair (function, part) of which the qualities must follow at a call or give."""
    if item[0] == "call":
        return index_of(program, item[1]), PRE
    return f, POST


def handed(program, f, item):
    """Return the terms that the places of these qualities have at a call or give."""
    if item[0] == "call":
        return ((0, 0), *item[2])
    return (*[(place, 0) for place in range(places(program[1][f]))], item[1:])


def with_terms(qualities, terms):
    """List the facts of qualities whose places have these terms, pairs (unknown, number)."""
    return [(terms[i][0], terms[j][0], c + terms[j][1] - terms[i][1]) for i, j, c in qualities]


def without(assignment, gone):
    """Return an assignment without some qualities, told as triples (function, part, quality)."""
    tables = {}
    for f, part, quality in gone:
        tables.setdefault((f, part), {})[quality] = True
    left = [list(pair) for pair in assignment]
    for (f, part), table in tables.items():
        left[f][part] = tuple([quality for quality in left[f][part] if quality not in table])
    return tuple([tuple(pair) for pair in left])


def triples_of(assignment):
    """List the qualities of an assignment as triples (function, part, quality), those of pre ahead of those of post."""
    return [
        (f, part, quality)
        for f, pair in enumerate(assignment) for part, qualities in enumerate(pair) for quality in qualities
    ]


def is_assignment(program, numbers, thing):
    """Tell whether a thing is an assignment of candidates for numbers."""
    if not isinstance(thing, tuple) or len(thing) != len(program[1]):
        return False
    return all([_is_pair(places(function), numbers, pair) for function, pair in zip(program[1], thing)])


def _is_pair(many, numbers, thing):
    if not isinstance(thing, tuple) or len(thing) != 2:
        return False
    return _are_candidates(many, numbers, thing[PRE]) and _are_candidates(many + 1, numbers, thing[POST])


def _are_candidates(many, numbers, thing):
    if not isinstance(thing, tuple) or not all([_is_candidate(many, numbers, quality) for quality in thing]):
        return False
    return all([ahead < quality for ahead, quality in zip(thing, thing[1:])])


def _is_candidate(many, numbers, thing):
    return is_quality(thing, many) and thing[2] in numbers


def _candidates(many, numbers):
    return tuple([(i, j, c) for i in range(many) for j in range(many) if i != j for c in numbers])


def _items(program, f, path):
    return ways(program[1][f])[path][0]
