"""Papers: what shows that a program is let, or that it is not, and whether a thing shows it."""

from claimfall.assignments import (
    PRE, candidates, dues_of, facts_ahead, facts_of, handed, is_assignment, open_facts, owed, places, unproved,
    with_terms,
)
from claimfall.facts import Sums, against, fulfil, proves
from claimfall.falling import Standing, fallen
from claimfall.paths import ways
from claimfall.programs import index_of
from claimfall.shapes import is_number, is_quality

# The words of PRE and POST.
_PARTS = ("pre", "post")


def paper(program, numbers):
    """Return a let paper with the strongest kept assignment, or a refused paper with all falls that lead to it."""
    every = candidates(program, numbers)
    kept, falls = fallen(program, every)
    wrong = unproved(program, kept, ("look",))
    if wrong is None:
        return ("let", kept, (_proofs(program, kept), _gifts(program, kept)))
    return _refused(program, every, falls, wrong)


def judge(program, numbers, thing):
    """Tell whether a thing is a let paper or a refused paper."""
    if not isinstance(thing, tuple) or len(thing) != 3:
        return False
    word, first, second = thing
    if word == "let":
        return is_assignment(program, numbers, first) and _is_proved(program, first, second)
    return word == "refused" and _is_refused(program, numbers, first, second)


def _proofs(program, kept):
    return tuple([
        tuple([_proofs_on(program, f, items, kept) for items, _ in ways(function)])
        for f, function in enumerate(program[1])
    ])


def _proofs_on(program, f, items, kept):
    sums = Sums()
    sums.take(kept[f][PRE])
    proofs = []
    for item in items:
        proofs.extend([sums.proof(due) for due in dues_of(program, f, item, kept)])
        sums.take(facts_of(program, item, kept))
    return tuple(proofs)


def _gifts(program, kept):
    return tuple([_gifts_of(program, place, kept) for place in range(len(program[2]))])


def _gifts_of(program, place, kept):
    sums = Sums()
    sums.take(open_facts(program, place))
    return tuple([sums.proof(quality) for quality in kept[index_of(program, program[2][place][0])][PRE]])


def _refused(program, every, falls, wrong):
    """Return the refused paper with these falls, and the first look that is wrong as (function, path, item)."""
    course = Course(program, every)
    told = []
    ahead = None
    values = None
    for f, part, quality, path, item in falls:
        due = course.due(quality, path, item)
        # Values that were found one fall ahead fulfil the facts here, too: these are no more than those.
        if (f, path, item) != ahead or fulfil(values, (due,)):
            values = course.values_against(f, path, item, due)
        told.append(("fall", f, _PARTS[part], quality, path, item, values))
        course.standing.drop(f, part, quality)
        ahead = (f, path, item)
    f, number, item = wrong
    look = course.item_at((f, number), item)
    values = course.values_against(f, (f, number), item, look[1:])
    return ("refused", tuple(told), ("look", (f, number), item, values))


class Course:
    """What stands and is there while qualities fall from an assignment one by one."""

    def __init__(self, program, assignment):
        self.program = program
        self.standing = Standing(assignment)
        self._ways = [ways(function) for function in program[1]]

    def item_at(self, path, item):
        """Return an item of a path (function, number)."""
        return self._ways[path[0]][path[1]][0][item]

    def facts_there(self, f, path, item):
        """Return the facts ahead of an item, or, with the path (), those of the open of function f."""
        if path == ():
            return open_facts(self.program, self._open_of(f))
        items, _ = self._ways[path[0]][path[1]]
        return facts_ahead(self.program, path[0], items, item, self.standing.tight)

    def many(self, f, path):
        """Return how many unknowns there are on a path, or, with the path (), places of function f."""
        return places(self.program[1][f]) if path == () else self._ways[path[0]][path[1]][1]

    def due(self, quality, path, item):
        """Return the fact that has to follow for a quality at a call or give, or, with the path (), at an open."""
        if path == ():
            return quality
        return with_terms((quality,), handed(self.program, path[0], self.item_at(path, item)))[0]

    def values_against(self, f, path, item, due):
        """Return values that fulfil the facts ahead of an item, but not what is due there."""
        return against(self.facts_there(f, path, item), due, self.many(f, path))

    def are_values_against(self, f, path, item, due, thing):
        """Tell whether a thing is such values."""
        if not isinstance(thing, tuple) or len(thing) != self.many(f, path):
            return False
        if not all([is_number(value) for value in thing]) or thing[0] != 0:
            return False
        return fulfil(thing, self.facts_there(f, path, item)) and not fulfil(thing, (due,))

    def is_item(self, path, item):
        """Tell whether things are a path, as a pair (function, number), and the index of an item of it."""
        if not isinstance(path, tuple) or len(path) != 2 or not _is_index(path[0], len(self._ways)):
            return False
        rows = self._ways[path[0]]
        return _is_index(path[1], len(rows)) and _is_index(item, len(rows[path[1]][0]))

    def is_owed(self, f, part, path, item):
        """Tell whether things are a path and an item at which the qualities of a part must follow, or () and -1."""
        if path == ():
            return part == PRE and is_number(item) and item == -1 and self._open_of(f) != -1
        if not self.is_item(path, item):
            return False
        there = self.item_at(path, item)
        return there[0] in ("call", "give") and owed(self.program, path[0], there) == (f, part)

    def _open_of(self, f):
        names = [name for name, _ in self.program[2]]
        name = self.program[1][f][1]
        return names.index(name) if name in names else -1


def _is_proved(program, assignment, thing):
    if not _has_length(thing, 2):
        return False
    proofs, gifts = thing
    return _are_proofs(program, assignment, proofs) and _are_gifts(program, assignment, gifts)


def _are_proofs(program, assignment, thing):
    if not _has_length(thing, len(program[1])):
        return False
    for f, function in enumerate(program[1]):
        rows = ways(function)
        if not _has_length(thing[f], len(rows)):
            return False
        if not all([_proves_path(program, f, items, assignment, row) for (items, _), row in zip(rows, thing[f])]):
            return False
    return True


def _proves_path(program, f, items, assignment, thing):
    if not isinstance(thing, tuple):
        return False
    facts = list(assignment[f][PRE])
    at = 0
    for item in items:
        dues = dues_of(program, f, item, assignment)
        if not _prove(facts, dues, thing[at:at + len(dues)]):
            return False
        at += len(dues)
        facts.extend(facts_of(program, item, assignment))
    return at == len(thing)


def _prove(facts, dues, proofs):
    return len(dues) == len(proofs) and all([proves(facts, due, proof) for due, proof in zip(dues, proofs)])


def _are_gifts(program, assignment, thing):
    if not _has_length(thing, len(program[2])):
        return False
    for place, (name, _) in enumerate(program[2]):
        dues = assignment[index_of(program, name)][PRE]
        if not isinstance(thing[place], tuple) or not _prove(open_facts(program, place), dues, thing[place]):
            return False
    return True


def _is_refused(program, numbers, falls, look):
    if not isinstance(falls, tuple):
        return False
    course = Course(program, candidates(program, numbers))
    for fall in falls:
        if not _is_fall(course, fall):
            return False
        _, f, word, quality, _, _, _ = fall
        course.standing.drop(f, _PARTS.index(word), quality)
    return _is_look(course, look)


def _is_fall(course, thing):
    if not _has_length(thing, 7) or thing[0] != "fall" or thing[2] not in _PARTS:
        return False
    _, f, word, quality, path, item, values = thing
    part = _PARTS.index(word)
    functions = course.program[1]
    if not _is_index(f, len(functions)) or not is_quality(quality, places(functions[f]) + part):
        return False
    if quality not in course.standing.left[f][part] or not course.is_owed(f, part, path, item):
        return False
    return course.are_values_against(f, path, item, course.due(quality, path, item), values)


def _is_look(course, thing):
    if not _has_length(thing, 4) or thing[0] != "look":
        return False
    _, path, item, values = thing
    if not course.is_item(path, item) or course.item_at(path, item)[0] != "look":
        return False
    return course.are_values_against(path[0], path, item, course.item_at(path, item)[1:], values)


def _has_length(thing, many):
    return isinstance(thing, tuple) and len(thing) == many


def _is_index(thing, many):
    return is_number(thing) and 0 <= thing < many
