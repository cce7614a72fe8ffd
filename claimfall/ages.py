"""Ages: the rounds, in which all that does not follow falls at once, and the round in which each candidate falls."""

from claimfall.assignments import PRE, candidates, facts_of, owed, without
from claimfall.facts import Sums
from claimfall.falling import Standing, concerned, lost_at, lost_at_open
from claimfall.paths import ways


def rounds_of(program, numbers):
    """Return the tuple of the assignments from that of all candidates up to the strongest kept one."""
    assignment = candidates(program, numbers)
    found = [assignment]
    for lost in _losses(program, assignment):
        assignment = without(assignment, lost)
        found.append(assignment)
    return tuple(found)


def ages(program, numbers):
    """Return for each function the pair of the tuples with the ages of its candidates, None for those that stay."""
    every = candidates(program, numbers)
    table = {triple: age for age, lost in enumerate(_losses(program, every)) for triple in lost}
    return tuple([
        tuple([tuple([table.get((f, part, quality)) for quality in row]) for part, row in enumerate(pair)])
        for f, pair in enumerate(every)
    ])


def _losses(program, assignment):
    """List for each round what falls in it, as triples (function, part, quality)."""
    standing = Standing(assignment)
    rows = [[items for items, _ in ways(function)] for function in program[1]]
    touched = concerned(program, rows)
    # The paths that are to be gone through in the next round, the facts on them having changed.
    waiting = [(f, path) for f, paths in enumerate(rows) for path in range(len(paths))]
    lost = _lost_at_opens(program, standing)
    losses = []
    while waiting:
        for f, path in waiting:
            lost.extend(_lost_on(program, f, rows[f][path], standing))
        # What does not follow at several places falls once.
        falling = list({triple: True for triple in lost})
        standing.drop(falling)
        if falling:
            losses.append(falling)
        waiting = list({pair: True for f, part, _ in falling for pair in touched[f, part]})
        lost = []
    return losses


def _lost_at_opens(program, standing):
    lost = []
    for place in range(len(program[2])):
        f, qualities = lost_at_open(program, place, standing)
        lost.extend([(f, PRE, quality) for quality in qualities])
    return lost


def _lost_on(program, f, items, standing):
    """List the triples that do not follow at the calls and the give of a path."""
    sums = Sums()
    sums.take(standing.tight[f][PRE])
    lost = []
    for item in items:
        if item[0] in ("call", "give") and not sums.clashing:
            owner, part = owed(program, f, item)
            lost.extend([(owner, part, quality) for quality in lost_at(program, f, item, sums, standing)])
        sums.take(facts_of(program, item, standing.tight))
    return lost
