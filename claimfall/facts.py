"""Facts: what clashes, what follows, and the numbers that show what does not follow."""

from claimfall.shapes import is_number


class Sums:
    """The least sums of all chains between unknowns, from the facts that were taken so far."""

    def __init__(self):
        self.clashing = False
        self._loop = ()
        self._many = 0
        # For each unknown that was asked for, each one to which a chain leads: the pair (its sum, its way). A way is
        # None, or a tuple (way, index, way), the indices being those of the facts in the order in which they came.
        self._rows = {}

    def take(self, facts):
        """Take more facts."""
        for fact in facts:
            if not self.shows(fact):
                self._shorten(fact, self._many)
            self._many += 1

    def shows(self, fact):
        """Tell whether a fact follows from those that were taken."""
        i, j, c = fact
        if self.clashing or (i == j and c >= 0):
            return True
        row = self._row(i)
        return j in row and row[j][0] <= c

    def least(self, i, j):
        """Return the least sum of the chains from an unknown to another one, or None; the facts do not clash."""
        row = self._row(i)
        return row[j][0] if j in row else None

    def proof(self, fact):
        """Return a round or a chain for a fact that follows."""
        i, j, _ = fact
        return self._loop if self.clashing else _indices(self._row(i)[j][1])

    def _row(self, i):
        return self._rows.setdefault(i, {i: (0, None)})

    def _shorten(self, fact, at):
        """Lower the sums of all chains that become less by way of a fact, which does not follow so far."""
        i, j, c = fact
        onward = self._row(j)
        if i in onward and onward[i][0] + c < 0:
            self.clashing = True
            self._loop = (at, *_indices(onward[i][1]))
            return
        steps = [(last, rest, way) for last, (rest, way) in onward.items()]
        for row in [sums for sums in self._rows.values() if i in sums]:
            start, ahead = row[i]
            if j not in row or start + c < row[j][0]:
                for last, rest, way in steps:
                    if last not in row or start + c + rest < row[last][0]:
                        row[last] = (start + c + rest, (ahead, at, way))


def clash(facts):
    """Return a round of the facts, or None if integers fulfil them all."""
    tight = tightest(facts)
    return _round(facts, tight, _level(facts, tight))


def chain(facts, fact):
    """Return a round if the facts clash; otherwise a chain for the fact, or None if it does not follow."""
    loop = clash(facts)
    if loop is not None:
        return loop
    i, j, c = fact
    sums = {j: 0}
    steps = {}
    tight = tightest(facts)
    # This ends: without a round, no sum falls below that of its best chain.
    while _lower(facts, tight, sums, steps) is not None:
        pass
    if i not in sums or sums[i] > c:
        return None
    return _walk(facts, steps, i, j)


def proves(facts, fact, thing):
    """Tell whether a thing is a chain from the facts for the fact, or a round."""
    if not _is_row(facts, thing):
        return False
    i, j, c = fact
    if len(thing) == 0:
        return i == j and c >= 0
    first = facts[thing[0]][0]
    last = facts[thing[-1]][1]
    total = sum([facts[at][2] for at in thing])
    if first == last and total < 0:
        return True
    return first == i and last == j and total <= c


def numbers_for(facts, many):
    """Return integers for so many unknowns that fulfil the facts, the first one 0, or None if the facts clash."""
    tight = tightest(facts)
    values = _level(facts, tight)
    if _round(facts, tight, values) is not None:
        return None
    zero = values.get(0, 0)
    return tuple([values.get(unknown, 0) - zero for unknown in range(many)])


def against(facts, fact, many):
    """Return integers as numbers_for does that do not fulfil the fact, or None if it follows from the facts."""
    i, j, c = fact
    return numbers_for((*facts, (j, i, -c - 1)), many)


def fulfil(values, facts):
    """Tell whether the values, one for each unknown, fulfil all facts."""
    return all([values[i] <= values[j] + c for i, j, c in facts])


def tightest(facts):
    """List the indices of the facts that lead to all others: for each two unknowns the one with the least number."""
    least = {}
    for at, (i, j, c) in enumerate(facts):
        if (i, j) not in least or c < facts[least[i, j]][2]:
            least[i, j] = at
    return list(least.values())


def _level(facts, tight):
    """Return a dict with 0 for each unknown of the facts."""
    values = {}
    for at in tight:
        values[facts[at][0]] = 0
        values[facts[at][1]] = 0
    return values


def _lower(facts, tight, values, steps):
    """Lower each unknown that a fact asks to be lower, and keep in steps the index of the last such fact for it.

    Return an unknown that was lowered, or None. An unknown without a value is above all numbers.
    """
    lowered = None
    for at in tight:
        i, j, c = facts[at]
        if j in values and (i not in values or values[i] > values[j] + c):
            values[i] = values[j] + c
            steps[i] = at
            lowered = i
    return lowered


def _round(facts, tight, values):
    """Lower the values, one for each unknown, until they fulfil the facts; return a round if this never ends."""
    steps = {}
    lowered = None
    for _ in range(len(values)):
        lowered = _lower(facts, tight, values, steps)
        if lowered is None:
            return None
    if lowered is None:
        return None
    # What is lowered the last time has steps behind it for all of these times, more than there
    # are unknowns on a way without a round: so many steps on, the way stands in a round.
    unknown = lowered
    for _ in range(len(values)):
        unknown = facts[steps[unknown]][1]
    return (steps[unknown], *_walk(facts, steps, facts[steps[unknown]][1], unknown))


def _indices(way):
    """Return the indices of a way (way, index, way) from the left, or of None."""
    indices = []
    waiting = [way]
    while waiting:
        part = waiting.pop()
        if isinstance(part, tuple):
            ahead, at, behind = part
            waiting.extend([behind, at, ahead])
        elif part is not None:
            indices.append(part)
    return tuple(indices)


def _walk(facts, steps, first, last):
    """Return the indices of the facts by which the steps lead from the first unknown to the last."""
    indices = []
    unknown = first
    while unknown != last:
        indices.append(steps[unknown])
        unknown = facts[steps[unknown]][1]
    return tuple(indices)


def _is_row(facts, thing):
    """Tell whether a thing is a tuple of indices of facts, each of which begins where the one ahead ends."""
    if not isinstance(thing, tuple) or not all([is_number(at) and 0 <= at < len(facts) for at in thing]):
        return False
    return all([facts[at][1] == facts[after][0] for at, after in zip(thing, thing[1:])])
