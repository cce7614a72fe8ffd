"""Falling: the qualities that no kept assignment can have fall, until the strongest kept assignment is left."""

from claimfall.assignments import POST, PRE, candidates, dues_of, facts_of, open_facts, owed
from claimfall.facts import Sums, tightest
from claimfall.paths import ways
from claimfall.programs import index_of


def strongest(program, numbers):
    """Return the strongest kept assignment for numbers."""
    return strongest_within(program, candidates(program, numbers))


def strongest_within(program, assignment):
    """Return the strongest kept assignment of those that have no quality that this one does not have."""
    return fallen(program, assignment)[0]


def is_let(program, numbers):
    """Tell whether a program is let with numbers."""
    return is_let_within(program, candidates(program, numbers))


def is_let_within(program, assignment):
    """Tell whether the strongest kept assignment within an assignment holds."""
    falling = Falling(program, assignment)
    falling.run()
    return falling.holding


def fallen(program, assignment):
    """Return the strongest kept assignment within an assignment, and the falls that lead to it.

    A fall is a tuple (function, part, quality, path, item) with PRE or POST as its part.
    """
    falling = Falling(program, assignment)
    falling.run()
    return falling.standing.assignment(), falling.falls


class Standing:
    """The qualities of an assignment that have not fallen."""

    def __init__(self, assignment):
        # For each function, for PRE and POST: a dict with all of them, and a list of those that lead to all others.
        self.left = [[{quality: True for quality in part} for part in pair] for pair in assignment]
        self.tight = [[_tight(part) for part in pair] for pair in self.left]

    def drop(self, triples):
        """Let some qualities fall, told as triples (function, part, quality)."""
        touched = {}
        for f, part, quality in triples:
            del self.left[f][part][quality]
            touched[f, part] = True
        for f, part in touched:
            self.tight[f][part] = _tight(self.left[f][part])

    def restore(self, f, part, quality):
        """Have a quality stand again that fell."""
        self.left[f][part][quality] = True
        self.tight[f][part] = _tight(self.left[f][part])

    def assignment(self):
        """Return the assignment of what is left."""
        return tuple([tuple([tuple(sorted(part)) for part in pair]) for pair in self.left])


class Falling:
    """Lets the qualities of an assignment fall that do not follow where they must."""

    def __init__(self, program, assignment):
        self.standing = Standing(assignment)
        self.falls = []
        # Whether all looks follow that were come to; one that once does not never does, as facts only become fewer.
        self.holding = True
        self._program = program
        self._paths = [[items for items, _ in ways(function)] for function in program[1]]
        self._concerned = concerned(program, self._paths)
        # The paths, as pairs (function, path), that are to be gone through (again).
        self._waiting = {}

    def run(self):
        """Let fall what has to fall."""
        for place in range(len(self._program[2])):
            f, lost = lost_at_open(self._program, place, self.standing)
            self._lose(f, PRE, lost, (), -1)
        for f in range(len(self._paths)):
            self._wait(self._concerned[f, PRE])
        while self._waiting:
            self._go_through_waiting()

    def leave_out(self, triples):
        """Leave some qualities out of what stands, a kept assignment that holds, and let fall what has to fall then.

        Tell whether what is left holds; if it does not, all stands as before.
        """
        ahead = self.standing.assignment()
        left = self.standing.left
        self.standing.drop([(f, part, quality) for f, part, quality in triples if quality in left[f][part]])
        for f, part, _ in triples:
            self._wait(self._concerned[f, part])
        while self._waiting and self.holding:
            self._go_through_waiting()
        if self.holding:
            return True
        self.standing = Standing(ahead)
        self._waiting = {}
        self.holding = True
        return False

    def _go_through_waiting(self):
        for f, path in list(self._waiting):
            self._waiting.pop((f, path))
            self._go(f, path)

    def _go(self, f, path):
        """Go through a path, and let fall what does not follow at its calls and its give."""
        sums = Sums()
        sums.take(self.standing.tight[f][PRE])
        for at, item in enumerate(self._paths[f][path]):
            if sums.clashing:
                return
            if item[0] in ("call", "give"):
                owner, part = owed(self._program, f, item)
                self._lose(owner, part, lost_at(self._program, f, item, sums, self.standing), (f, path), at)
            if item[0] == "look" and not sums.shows(item[1:]):
                self.holding = False
            sums.take(facts_of(self._program, item, self.standing.tight))

    def _lose(self, f, part, lost, path, item):
        """Let some qualities of a part fall, and have the paths wait on which they were facts."""
        if lost:
            # The greater numbers fall first: what speaks against them speaks against the lesser ones, too.
            self.falls.extend([(f, part, quality, path, item) for quality in reversed(lost)])
            self.standing.drop([(f, part, quality) for quality in lost])
            self._wait(self._concerned[f, part])

    def _wait(self, pairs):
        for pair in pairs:
            self._waiting[pair] = True


def lost_at_open(program, place, standing):
    """Return the function of an open, and those of its qualities that stand, but do not follow from the promises."""
    f = index_of(program, program[2][place][0])
    sums = Sums()
    sums.take(open_facts(program, place))
    return f, [quality for quality in standing.left[f][PRE] if not sums.shows(quality)]


def lost_at(program, f, item, sums, standing):
    """List the qualities that stand and must follow at a call or give, but do not follow from the facts in sums."""
    if all([sums.shows(due) for due in dues_of(program, f, item, standing.tight)]):
        return []
    owner, part = owed(program, f, item)
    dues = dues_of(program, f, item, standing.left)
    return [quality for quality, due in zip(list(standing.left[owner][part]), dues) if not sums.shows(due)]


def concerned(program, rows):
    """Return a dict with, for each function and part, the list of the paths on which its qualities are facts.

    The rows are, for each function, the list of the items of each path; a path is told as a pair (function, path).
    """
    found = {(f, part): [] for f in range(len(rows)) for part in (PRE, POST)}
    for f, paths in enumerate(rows):
        for path, items in enumerate(paths):
            found[f, PRE].append((f, path))
            for g in sorted({index_of(program, item[1]) for item in items if item[0] == "call"}):
                found[g, POST].append((f, path))
    return found


def _tight(qualities):
    """List those of some qualities that lead to all others."""
    rows = list(qualities)
    return [rows[at] for at in tightest(rows)]
