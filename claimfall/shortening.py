"""Shortening: of a row of falls only those on which a goal hangs, so that none of them can be left out."""

from claimfall.assignments import candidates, with_terms, without
from claimfall.courses import PARTS, Course
from claimfall.facts import fulfil


class Step:
    """A place at which a fact does not follow, with values that show it; what falls there is a triple, or None."""

    def __init__(self, triple, path, item, asked):
        self.triple = triple
        self.path = path
        self.item = item
        self.asked = asked
        self.shown = None

    def fall(self):
        """Return the fall of this step as papers tell it."""
        f, part, quality = self.triple
        return ("fall", f, PARTS[part], quality, self.path, self.item, self.shown)


class Shortening:
    """Leaves falls out ahead of a goal."""

    def __init__(self, program, numbers):
        self._every = candidates(program, numbers)
        self._course = Course(program, self._every)

    def shortened(self, falls, triple, path, item):
        """List the steps that are left of some falls, and last the goal, the fall of a triple or, with None, a look."""
        steps = self._asked(falls, self._step(triple, path, item))
        many = len(steps) - 1
        for at in reversed(range(many)):
            self._course.begin(without(self._every, [step.triple for step in steps[:at]]))
            renewed = self._renewed(steps[at].triple, steps[at + 1:])
            if renewed is not None:
                steps = [*steps[:at], *renewed]
        return steps

    def _step(self, triple, path, item):
        if triple is None:
            return Step(None, path, item, self._course.item_at(path, item)[1:])
        return Step(triple, path, item, self._course.due(triple[2], path, item))

    def _asked(self, falls, goal):
        """List, with values, those of some falls that the goal or a later one of them asks for, and then the goal.

        A fall is asked for by values that do not fulfil its quality where this would be a fact.
        """
        gone = {(f, part, quality): True for f, part, quality, _, _ in falls}
        self._course.begin(without(self._every, list(gone)))
        self._show(goal)
        asked = {triple: True for triple in self._broken(goal, gone)}
        steps = [goal]
        for f, part, quality, path, item in reversed(falls):
            triple = (f, part, quality)
            gone.pop(triple)
            self._course.standing.restore(f, part, quality)
            if triple in asked:
                step = self._step(triple, path, item)
                self._show(step)
                steps.append(step)
                for other in self._broken(step, gone):
                    asked[other] = True
        steps.reverse()
        return steps

    def _renewed(self, kept, steps):
        """Return some steps, with new values where they need them as one quality more stands; None if one has none."""
        renewed = []
        falling = []
        for step in steps:
            if self._broken(step, [kept]):
                self._course.standing.drop(falling)
                falling = []
                step = self._step(step.triple, step.path, step.item)
                self._show(step)
                if step.shown is None:
                    return None
            renewed.append(step)
            falling.append(step.triple)
        return renewed

    def _show(self, step):
        """Find values for a step with what stands."""
        # An open has a function of its own; at other places the path tells it.
        f = step.triple[0] if step.path == () else step.path[0]
        step.shown = self._course.values_against(f, step.path, step.item, step.asked)

    def _broken(self, step, triples):
        """List those triples that are facts at a step which its values do not fulfil."""
        broken = []
        for f, part, terms in self._course.sources(step.path, step.item):
            for triple in triples:
                if triple[:2] == (f, part) and not fulfil(step.shown, with_terms((triple[2],), terms)):
                    broken.append(triple)
        return broken
