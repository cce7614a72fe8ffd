"""Measures: what becomes less from call to call, so that activations do not stand within one another for ever."""

from claimfall.assignments import PRE, facts_of, places
from claimfall.errors import TooGreat
from claimfall.facts import Sums
from claimfall.falling import strongest
from claimfall.paths import ways
from claimfall.programs import index_of
from claimfall.slices import called_from

MOST_ROWS = 20000


def rings(program):
    """Return the greatest sets of functions that are called from one another, ordered by their first ones."""
    called = called_from(program)
    found = []
    for f, numbers in enumerate(called):
        ring = tuple([g for g in numbers if f in called[g]])
        if f in ring and f == ring[0]:
            found.append(ring)
    return tuple(found)


def descends(program, assignment, rank):
    """Tell whether a rank descends with an assignment."""
    pairs = [[pair] for pair in rank]
    for ring in rings(program):
        fitting = _fitting(program, assignment, ring, pairs)
        if not all([len(fitting[key]) > 0 for key in fitting]):
            return False
    return True


def rank_of(program, numbers):
    """Return the rank with the first pairs for each ring that descend with the strongest kept assignment, or None."""
    found = rings(program)
    for ring in found:
        _check_size(program, ring)
    kept = strongest(program, numbers)
    rank = [(0, 0) for _ in program[1]]
    for ring in found:
        row = _first_row(program, kept, ring)
        if row is None:
            return None
        for f, pair in zip(ring, row):
            rank[f] = pair
    return tuple(rank)


def _check_size(program, ring):
    rows = 1
    for f in ring:
        rows *= len(_pairs(program, f))
    if rows > MOST_ROWS:
        raise TooGreat("a ring has too many rows of pairs")


def _pairs(program, f):
    """List the pairs of places of a function, ascending."""
    many = places(program[1][f])
    return [(i, j) for i in range(many) for j in range(many)]


def _first_row(program, assignment, ring):
    """Return the first row of pairs for the functions of a ring that descends, or None."""
    pairs = [_pairs(program, f) for f in range(len(program[1]))]
    fitting = _fitting(program, assignment, ring, pairs)
    rows = [()]
    for at, f in enumerate(ring):
        rows = [(*row, pair) for row in rows for pair in pairs[f]]
        # A row that does not fit so far fits with nothing behind it.
        rows = [row for row in rows if _fits(fitting, ring[:at + 1], row)]
    return rows[0] if rows else None


def _fits(fitting, numbers, row):
    """Tell whether the last pair of a row fits with itself and with those ahead of it."""
    g, last = numbers[-1], row[-1]
    return all([(pair, last) in fitting[f, g] and (last, pair) in fitting[g, f] for f, pair in zip(numbers, row)])


def _fitting(program, assignment, ring, pairs):
    """Return for each (f, g) of a ring a dict of (pair of f, pair of g) that descend at all calls of g by f.

    Only the pairs are looked at that are told for each function.
    """
    # A function that calls itself has the same pair on both sides.
    fitting = {
        (f, g): {(own, other): True for own in pairs[f] for other in pairs[g] if f != g or own == other}
        for f in ring for g in ring
    }
    for f in ring:
        for items, _ in ways(program[1][f]):
            _narrow(program, assignment, f, items, fitting)
    return fitting


def _narrow(program, assignment, f, items, fitting):
    """Leave what descends at the calls on a path of a function, too."""
    sums = Sums()
    sums.take(assignment[f][PRE])
    for item in items:
        if sums.clashing:
            return
        key = (f, index_of(program, item[1])) if item[0] == "call" else None
        if key in fitting:
            left = fitting[key]
            terms = ((0, 0), *item[2])
            fitting[key] = {(own, other): True for own, other in left if _is_less(sums, own, other, terms)}
        sums.take(facts_of(program, item, assignment))


def _is_less(sums, own, other, terms):
    """Tell whether the measure of a callee is less than that of its caller, which is at least 0."""
    i, j = own
    (u, more), (v, less) = terms[other[0]], terms[other[1]]
    above, below = sums.least(u, i), sums.least(j, v)
    if above is None or below is None or not sums.shows((j, i, 0)):
        return False
    # The callee's first term is at most place i and (above + more), place j at most its second one and (below - less).
    return above + more + below - less <= -1
