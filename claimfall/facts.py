"""Facts: what clashes, what follows, and the numbers that show what does not follow."""

from claimfall.shapes import is_number


def clash(facts):
    """Return a round of the facts, or None if integers fulfil them all."""
    return _round(facts, _level(facts))


def chain(facts, fact):
    """Return a round if the facts clash; otherwise a chain for the fact, or None if it does not follow."""
    loop = clash(facts)
    if loop is not None:
        return loop
    i, j, c = fact
    sums = {j: 0}
    steps = {}
    # This ends: without a round, no sum falls below that of its best chain.
    while _lower(facts, sums, steps) is not None:
        pass
    if i not in sums or sums[i] > c:
        return None
    return _walk(facts, steps, i, j)


def proves(facts, fact, thing):
    """Tell whether a thing is a chain from the facts for the fact, or a round."""
    if not _is_row(facts, thing):
        return False
    i, j, c = fact
    if len(thing) == 0:
        return i == j and c >= 0
    first = facts[thing[0]][0]
    last = facts[thing[-1]][1]
    total = sum([facts[at][2] for at in thing])
    if first == last and total < 0:
        return True
    return first == i and last == j and total <= c


def numbers_for(facts, many):
    """Return integers for so many unknowns that fulfil the facts, the first one 0, or None if the facts clash."""
    values = _level(facts)
    if _round(facts, values) is not None:
        return None
    zero = values.get(0, 0)
    return tuple([values.get(unknown, 0) - zero for unknown in range(many)])


def against(facts, fact, many):
    """Return integers as numbers_for does that do not fulfil the fact, or None if it follows from the facts."""
    i, j, c = fact
    return numbers_for((*facts, (j, i, -c - 1)), many)


def fulfil(values, facts):
    """Tell whether the values, one for each unknown, fulfil all facts."""
    return all([values[i] <= values[j] + c for i, j, c in facts])


def _level(facts):
    """Return a dict with 0 for each unknown of the facts."""
    values = {}
    for i, j, _ in facts:
        values[i] = 0
        values[j] = 0
    return values


def _lower(facts, values, steps):
    """Lower each unknown that a fact asks to be lower, and keep in steps the index of the last such fact for it.

    Return an unknown that was lowered, or None. An unknown without a value is above all numbers.
    """
    lowered = None
    for at, (i, j, c) in enumerate(facts):
        if j in values and (i not in values or values[i] > values[j] + c):
            values[i] = values[j] + c
            steps[i] = at
            lowered = i
    return lowered


def _round(facts, values):
    """Lower the values, one for each unknown, until they fulfil the facts; return a round if this never ends."""
    steps = {}
    lowered = None
    for _ in range(len(values)):
        lowered = _lower(facts, values, steps)
        if lowered is None:
            return None
    if lowered is None:
        return None
    # What is lowered the last time has steps behind it for all of these times, more than there
    # are unknowns on a way without a round: so many steps on, the way stands in a round.
    unknown = lowered
    for _ in range(len(values)):
        unknown = facts[steps[unknown]][1]
    return (steps[unknown], *_walk(facts, steps, facts[steps[unknown]][1], unknown))


def _walk(facts, steps, first, last):
    """Return the indices of the facts by which the steps lead from the first unknown to the last."""
    indices = []
    unknown = first
    while unknown != last:
        indices.append(steps[unknown])
        unknown = facts[steps[unknown]][1]
    return tuple(indices)


def _is_row(facts, thing):
    """Tell whether a thing is a tuple of indices of facts, each of which begins where the one ahead ends."""
    if not isinstance(thing, tuple) or not all([is_number(at) and 0 <= at < len(facts) for at in thing]):
        return False
    return all([facts[at][1] == facts[after][0] for at, after in zip(thing, thing[1:])])
