"""Courses: what stands while qualities fall one by one, and whether a fall or a look is a right one there."""

from claimfall.assignments import (
    POST, PRE, facts_ahead, handed, open_facts, owed, places, with_terms,
)
from claimfall.facts import against, fulfil
from claimfall.falling import Standing
from claimfall.paths import ways
from claimfall.programs import index_of, open_of
from claimfall.shapes import is_index, is_number, is_quality, is_row

# The words of PRE and POST.
PARTS = ("pre", "post")


class Course:
    """What stands and is there while qualities fall from an assignment one by one.

    A place is a tuple (f, path, item): an item of a path (function, number) at which something must follow; or, with
    the path () and the item -1, the open of function f.
    """

    def __init__(self, program, assignment):
        self.program = program
        self.standing = Standing(assignment)
        self._ways = [ways(function) for function in program[1]]

    def begin(self, assignment):
        """Have the qualities of an assignment stand, and no others."""
        self.standing = Standing(assignment)

    def item_at(self, path, item):
        """Return an item of a path (function, number)."""
        return self._ways[path[0]][path[1]][0][item]

    def facts_there(self, f, path, item):
        """Return the facts ahead of a place."""
        if path == ():
            return open_facts(self.program, self._open_of(f))
        items, _ = self._ways[path[0]][path[1]]
        return facts_ahead(self.program, path[0], items, item, self.standing.tight)

    def sources(self, path, item):
        """List the parts whose qualities are facts ahead of a place: tuples (function, part, terms of its places)."""
        if path == ():
            return []
        f = path[0]
        found = [(f, PRE, [(place, 0) for place in range(places(self.program[1][f]))])]
        for ahead in self._ways[f][path[1]][0][:item]:
            if ahead[0] == "call":
                _, name, terms, result = ahead
                found.append((index_of(self.program, name), POST, [(0, 0), *terms, (result, 0)]))
        return found

    def many(self, f, path):
        """Return how many unknowns there are at a place."""
        return places(self.program[1][f]) if path == () else self._ways[path[0]][path[1]][1]

    def due(self, quality, path, item):
        """Return the fact that has to follow for a quality at a call, a give or an open."""
        if path == ():
            return quality
        return with_terms((quality,), handed(self.program, path[0], self.item_at(path, item)))[0]

    def values_against(self, f, path, item, due):
        """Return values that fulfil the facts ahead of a place, but not what is due there; None if there are none."""
        return against(self.facts_there(f, path, item), due, self.many(f, path))

    def are_values_against(self, f, path, item, due, thing):
        """Tell whether a thing is such values."""
        if not is_row(thing, self.many(f, path)):
            return False
        if not all([is_number(value) for value in thing]) or thing[0] != 0:
            return False
        return fulfil(thing, self.facts_there(f, path, item)) and not fulfil(thing, (due,))

    def is_item(self, path, item):
        """Tell whether things are a path, as a pair (function, number), and the index of an item of it."""
        if not is_row(path, 2) or not is_index(path[0], len(self._ways)):
            return False
        rows = self._ways[path[0]]
        return is_index(path[1], len(rows)) and is_index(item, len(rows[path[1]][0]))

    def is_owed(self, f, part, path, item):
        """Tell whether things are a path and an item at which the qualities of a part must follow, or () and -1."""
        if path == ():
            return part == PRE and is_number(item) and item == -1 and self._open_of(f) != -1
        if not self.is_item(path, item):
            return False
        there = self.item_at(path, item)
        return there[0] in ("call", "give") and owed(self.program, path[0], there) == (f, part)

    def _open_of(self, f):
        return open_of(self.program, self.program[1][f][1])


def are_falls(course, thing):
    """Tell whether a thing is a tuple of falls, each right behind those ahead; these fall from what stands."""
    if not isinstance(thing, tuple):
        return False
    for fall in thing:
        if not _is_fall(course, fall):
            return False
        _, f, word, quality, _, _, _ = fall
        course.standing.drop([(f, PARTS.index(word), quality)])
    return True


def _is_fall(course, thing):
    if not is_row(thing, 7) or thing[0] != "fall" or thing[2] not in PARTS:
        return False
    _, f, word, quality, path, item, values = thing
    part = PARTS.index(word)
    functions = course.program[1]
    if not is_index(f, len(functions)) or not is_quality(quality, places(functions[f]) + part):
        return False
    if quality not in course.standing.left[f][part] or not course.is_owed(f, part, path, item):
        return False
    return course.are_values_against(f, path, item, course.due(quality, path, item), values)


def is_look(course, thing):
    """Tell whether a thing is a look that values do not fulfil, though they fulfil what is there."""
    if not is_row(thing, 4) or thing[0] != "look":
        return False
    _, path, item, values = thing
    if not course.is_item(path, item) or course.item_at(path, item)[0] != "look":
        return False
    return course.are_values_against(path[0], path, item, course.item_at(path, item)[1:], values)
