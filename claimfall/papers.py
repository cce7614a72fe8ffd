"""Papers: what shows that a program is let, or that it is not, and whether a thing shows it."""

from claimfall.assignments import PRE, candidates, dues_of, facts_of, is_assignment, open_facts, unproved
from claimfall.courses import PARTS, Course, are_falls, is_look
from claimfall.facts import Sums, fulfil, proves
from claimfall.falling import fallen
from claimfall.paths import ways
from claimfall.programs import index_of
from claimfall.shapes import is_row


def paper(program, numbers):
    """Return a let paper with the strongest kept assignment, or a refused paper with all falls that lead to it."""
    every = candidates(program, numbers)
    kept, falls = fallen(program, every)
    wrong = unproved(program, kept, ("look",))
    if wrong is None:
        return ("let", kept, (_proofs(program, kept), _gifts(program, kept)))
    return _refused(program, every, falls, wrong)


def judge(program, numbers, thing):
    """Tell whether a thing is a let paper or a refused paper."""
    if not is_row(thing, 3):
        return False
    word, first, second = thing
    if word == "let":
        return is_assignment(program, numbers, first) and _is_proved(program, first, second)
    return word == "refused" and _is_refused(program, numbers, first, second)


def _proofs(program, kept):
    return tuple([
        tuple([_proofs_on(program, f, items, kept) for items, _ in ways(function)])
        for f, function in enumerate(program[1])
    ])


def _proofs_on(program, f, items, kept):
    sums = Sums()
    sums.take(kept[f][PRE])
    proofs = []
    for item in items:
        proofs.extend([sums.proof(due) for due in dues_of(program, f, item, kept)])
        sums.take(facts_of(program, item, kept))
    return tuple(proofs)


def _gifts(program, kept):
    return tuple([_gifts_of(program, place, kept) for place in range(len(program[2]))])


def _gifts_of(program, place, kept):
    sums = Sums()
    sums.take(open_facts(program, place))
    return tuple([sums.proof(quality) for quality in kept[index_of(program, program[2][place][0])][PRE]])


def _refused(program, every, falls, wrong):
    """Return the refused paper with these falls, and the first look that is wrong as (function, path, item)."""
    course = Course(program, every)
    told = []
    ahead = None
    values = None
    for f, part, quality, path, item in falls:
        due = course.due(quality, path, item)
        # Values that were found one fall ahead fulfil the facts here, too: these are no more than those.
        if (f, path, item) != ahead or fulfil(values, (due,)):
            values = course.values_against(f, path, item, due)
        told.append(("fall", f, PARTS[part], quality, path, item, values))
        course.standing.drop([(f, part, quality)])
        ahead = (f, path, item)
    f, number, item = wrong
    look = course.item_at((f, number), item)
    values = course.values_against(f, (f, number), item, look[1:])
    return ("refused", tuple(told), ("look", (f, number), item, values))


def _is_proved(program, assignment, thing):
    if not is_row(thing, 2):
        return False
    proofs, gifts = thing
    return _are_proofs(program, assignment, proofs) and _are_gifts(program, assignment, gifts)


def _are_proofs(program, assignment, thing):
    if not is_row(thing, len(program[1])):
        return False
    for f, function in enumerate(program[1]):
        rows = ways(function)
        if not is_row(thing[f], len(rows)):
            return False
        if not all([_proves_path(program, f, items, assignment, row) for (items, _), row in zip(rows, thing[f])]):
            return False
    return True


def _proves_path(program, f, items, assignment, thing):
    if not isinstance(thing, tuple):
        return False
    facts = list(assignment[f][PRE])
    at = 0
    for item in items:
        dues = dues_of(program, f, item, assignment)
        if not _prove(facts, dues, thing[at:at + len(dues)]):
            return False
        at += len(dues)
        facts.extend(facts_of(program, item, assignment))
    return at == len(thing)


def _prove(facts, dues, proofs):
    return len(dues) == len(proofs) and all([proves(facts, due, proof) for due, proof in zip(dues, proofs)])


def _are_gifts(program, assignment, thing):
    if not is_row(thing, len(program[2])):
        return False
    for place, (name, _) in enumerate(program[2]):
        dues = assignment[index_of(program, name)][PRE]
        if not isinstance(thing[place], tuple) or not _prove(open_facts(program, place), dues, thing[place]):
            return False
    return True


def _is_refused(program, numbers, falls, look):
    course = Course(program, candidates(program, numbers))
    return are_falls(course, falls) and is_look(course, look)
