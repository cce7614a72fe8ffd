"""What the document says of runs, by one call within another, and without the package."""

import itertools

from tests import naive


class Over(Exception):
    """The run is over; its one argument is the end."""


def ways_of(body):
    """All ways through a body, in order: tuples of 0, 1 and 2, one for each if on the way."""
    word = body[0]
    if word in ("give", "never"):
        return [()]
    if word != "if":
        return ways_of(body[-1])
    cases = [(0, body[2]), (1, body[3])]
    if body[1][0] == "same":
        cases.append((2, body[3]))
    return [(case, *way) for case, inner in cases for way in ways_of(inner)]


class Slow:
    """Goes through a call; deep runs go deep into Python, too."""

    def __init__(self, program, call, most):
        self.program, self.most, self.steps = program, most, 0
        _, self.name, self.handed, self.outside = call
        self.outside = list(self.outside)
        self.trail, self.within = [], []
        self.end = None

    def go(self):
        arguments = [list(part) if isinstance(part, tuple) else part for part in self.handed]
        try:
            self.end = ("gives", self.call(self.name, arguments))
        except Over as over:
            (self.end,) = over.args
        return self

    def call(self, name, arguments):
        f = naive.number_of(self.program, name)
        _, _, params, body = self.program[1][f]
        act = ["act", f, -1, [0] + [len(part) if isinstance(part, list) else part for part in arguments]]
        self.trail.append(act)
        self.within.append([name, ()])
        known = {x: argument for (x, _), argument in zip(params, arguments)}
        way = []
        number = self.body(body, known, act[3], way)
        self.within.pop()
        act[2] = ways_of(body).index(tuple(way))
        return number

    def wrong(self, why):
        raise Over(("wrong", why, tuple((name, place) for name, place in self.within)))

    def term(self, known, term):
        if term[0] == "num":
            return term[1]
        thing = known[term[1]]
        if term[0] == "array":
            return thing
        return (len(thing) if term[0] == "len" else thing) + term[2]

    def body(self, body, known, values, way):
        """Go through a body and all behind it; returns what is given."""
        if self.steps == self.most:
            raise Over(("long",))
        self.steps += 1
        word = body[0]
        if word == "give":
            return self.term(known, body[1])
        if word == "never":
            self.wrong("never")
        number = 0
        if word == "let":
            known = {**known, body[1]: self.value(body[2], known, values)}
        if word == "if":
            number = self.choose(body[1], known, way)
        if word == "claim":
            s, t = self.term(known, body[1][1]), self.term(known, body[1][2])
            if not (s <= t if body[1][0] == "most" else s == t):
                self.wrong("claim")
        if word == "put":
            index = self.index(known, body[1], body[2])
            known[body[1]][index] = self.term(known, body[3])
        self.within[-1][1] += (number,)
        return self.body(body[2 + number] if word == "if" else body[-1], known, values, way)

    def choose(self, condition, known, way):
        s, t = self.term(known, condition[1]), self.term(known, condition[2])
        if condition[0] == "most":
            way.append(0 if s <= t else 1)
        else:
            way.append(0 if s == t else 1 if s < t else 2)
        return min(way[-1], 1)

    def index(self, known, array, term):
        index = self.term(known, term)
        if index < 0:
            self.wrong("below")
        if index > len(known[array]) - 1:
            self.wrong("beyond")
        return index

    def value(self, value, known, values):
        word = value[0]
        if word in ("num", "name", "len"):
            return self.term(known, value)
        if word == "call":
            values.append(None)
            number = self.call(value[1], [self.term(known, argument) for argument in value[2]])
            values[-1] = number
            return number
        if word == "at":
            values.append(known[value[1]][self.index(known, value[1], value[2])])
        if word == "middle":
            s, t = self.term(known, value[1]), self.term(known, value[2])
            if s > t:
                self.wrong("middle")
            values.append(max(half for half in range(s, t + 1) if 2 * half <= s + t))
        if word == "any":
            if not self.outside:
                raise Over(("waits",))
            values.append(self.outside.pop(0))
        return values[-1]

    def acts(self):
        return tuple((word, f, path, tuple(values)) for word, f, path, values in self.trail)

    def broken(self, numbers):
        """What r7 says."""
        gone = []
        for _, f, path, values in self.trail:
            _, _, params, _ = self.program[1][f]
            places = values[:len(params) + 1]
            gone.append((f, 0, places))
            if path != -1:
                items, _ = naive.paths_of(self.program[1][f])[path]
                _, unknown, c = items[-1]
                gone.append((f, 1, places + [values[unknown] + c]))
        every = naive.all_candidates(self.program, numbers)
        return tuple(
            tuple(
                tuple((i, j, c) for i, j, c in pair[part] if any(
                    places[i] > places[j] + c for g, other, places in gone if (g, other) == (f, part)
                )) for part in (0, 1)
            ) for f, pair in enumerate(every)
        )


def keeps(program, call):
    """Whether a call keeps the promises of its open (r1)."""
    _, name, arguments, _ = call
    places = [0] + [len(part) if isinstance(part, tuple) else part for part in arguments]
    (promises,) = [told for word, told in program[2] if word == name]
    return all(places[i] <= places[j] + c for i, j, c in promises)


def calls_within(program, bounds):
    """All calls within bounds in their order (r6), whether they keep their promises or not."""
    low, high, longest, draws, _ = bounds
    found = []
    for name, _ in program[2]:
        _, _, params, _ = program[1][naive.number_of(program, name)]
        for outside in rows(low, high, draws):
            choices = [range(low, high + 1) if kind == "int" else rows(low, high, longest) for _, kind in params]
            found.extend(("call", name, arguments, outside) for arguments in itertools.product(*choices))
    return found


def rows(low, high, longest):
    return [row for many in range(longest + 1) for row in itertools.product(range(low, high + 1), repeat=many)]


def union(one, other):
    return tuple(
        tuple(tuple(sorted({*part, *more})) for part, more in zip(pair, others)) for pair, others in zip(one, other)
    )


def wrong_call(program, bounds):
    for call in calls_within(program, bounds):
        if keeps(program, call):
            end = Slow(program, call, bounds[4]).go().end
            if end[0] == "wrong":
                return call, end
    return None


def broken_within(program, numbers, bounds):
    told = tuple(((), ()) for _ in program[1])
    for call in calls_within(program, bounds):
        if keeps(program, call):
            told = union(told, Slow(program, call, bounds[4]).go().broken(numbers))
    return told
