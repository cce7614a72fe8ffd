"""Causes: the falls that are enough to have one quality fall, so that no kept assignment has it."""

from claimfall.assignments import candidates
from claimfall.courses import PARTS, Course, are_falls
from claimfall.errors import BadState
from claimfall.falling import fallen
from claimfall.shapes import is_row
from claimfall.shortening import Shortening


def cause(program, numbers, f, part, quality):
    """Return a short cause of the fall of a candidate; raise BadState if it does not fall."""
    triple = (f, PARTS.index(part), quality)
    _, falls = fallen(program, candidates(program, numbers))
    found = [at for at, fall in enumerate(falls) if fall[:3] == triple]
    if not found:
        raise BadState("the strongest kept assignment has this quality")
    _, _, _, path, item = falls[found[0]]
    steps = Shortening(program, numbers).shortened(falls[:found[0]], triple, path, item)
    return ("cause", tuple([step.fall() for step in steps]))


def judge_cause(program, numbers, thing):
    """Tell whether a thing is a cause, short or not."""
    if not is_row(thing, 2) or thing[0] != "cause" or thing[1] == ():
        return False
    return are_falls(Course(program, candidates(program, numbers)), thing[1])
