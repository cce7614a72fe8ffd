"""The machine: goes through the bodies of the functions of a call, part by part."""

from claimfall.programs import index_of
from claimfall.shapes import bodies_in


class Code:
    """The bodies of a function by numbers, from the outside in, the first body of an if ahead of the second."""

    def __init__(self, function):
        _, self.name, self.params, outermost = function
        self.bodies = []
        # For each body the numbers of the bodies through which one goes to it, the numbers that those
        # in it have here, and how many paths lead on from it.
        self.where = []
        self.inner = []
        self.paths = []
        waiting = [(outermost, (), None)]
        while waiting:
            body, where, around = waiting.pop()
            at = len(self.bodies)
            self.bodies.append(body)
            self.where.append(where)
            self.inner.append([])
            self.paths.append(1)
            if around is not None:
                self.inner[around].append(at)
            rows = [(part, (*where, number), at) for number, part in enumerate(bodies_in(body))]
            rows.reverse()
            waiting.extend(rows)
        self._count_paths()

    def _count_paths(self):
        for at in reversed(range(len(self.bodies))):
            body, inner = self.bodies[at], self.inner[at]
            if body[0] == "if":
                first, second = inner
                # Where s and t are not the same, s is less or greater: two ways through the second body.
                ways = 2 if body[1][0] == "same" else 1
                self.paths[at] = self.paths[first] + ways * self.paths[second]
            elif inner:
                self.paths[at] = self.paths[inner[0]]


class Activation:
    """A function that is gone through with some arguments."""

    def __init__(self, f, code, arguments):
        self.f = f
        self.code = code
        # What the names stand for: integers, and for the arrays lists that are changed in place.
        self.known = {name: argument for (name, _), argument in zip(code.params, arguments)}
        # What the unknowns of its path are, as far as it has come.
        self.unknowns = [0, *[len(argument) if isinstance(argument, list) else argument for argument in arguments]]
        # The number of the body that it has come to, and that of the first path on which it can be so far.
        self.at = 0
        self.path = 0
        self.result = None

    def body(self):
        """Return the body that it has come to."""
        return self.code.bodies[self.at]

    def go_on(self, number):
        """Come to the body of this number in the one where it is."""
        self.at = self.code.inner[self.at][number]

    def choose(self, s, t):
        """Come to the body of an if that its condition on two integers asks for."""
        most = self.body()[1][0] == "most"
        first, second = self.code.inner[self.at]
        if (most and s <= t) or s == t:
            self.go_on(0)
            return
        self.path += self.code.paths[first]
        if not most and s > t:
            self.path += self.code.paths[second]
        self.go_on(1)

    def worth(self, term):
        """Return the integer that a term is, or the list of an array."""
        if term[0] == "num":
            return term[1]
        named = self.known[term[1]]
        if term[0] == "array":
            return named
        return len(named) + term[2] if term[0] == "len" else named + term[2]

    def name_new(self, number):
        """Have the name of the let where it is stand for an integer, and come to its body."""
        self.known[self.body()[1]] = number
        self.go_on(0)

    def places(self):
        """Return the numbers of the places as they were handed in."""
        return self.unknowns[:len(self.code.params) + 1]


class Run:
    """A call of a program that is gone through."""

    def __init__(self, program, codes, call):
        _, name, arguments, outside = call
        self._program = program
        self._codes = codes
        self._drawable = outside
        self._drawn = 0
        self._within = []
        # All activations in the order in which they begin.
        self.begun = []
        self.steps = 0
        self.end = None
        self._begin(index_of(program, name), [
            list(argument) if isinstance(argument, tuple) else argument for argument in arguments
        ])

    def go(self, most):
        """Make at most so many steps."""
        while self.end is None:
            if self.steps >= most:
                self.end = ("long",)
            else:
                self.steps += 1
                self._step(self._within[-1])

    def _begin(self, f, arguments):
        activation = Activation(f, self._codes[f], arguments)
        self._within.append(activation)
        self.begun.append(activation)

    def _step(self, now):
        body = now.body()
        word = body[0]
        if word == "give":
            self._give(now, now.worth(body[1]))
        elif word == "let":
            self._value(now, body[2])
        elif word == "if":
            now.choose(now.worth(body[1][1]), now.worth(body[1][2]))
        elif word == "claim":
            self._claim(now, body[1])
        elif word == "put":
            self._put(now, body)
        else:
            self._wrong("never")

    def _give(self, now, number):
        now.result = number
        self._within.pop()
        if self._within:
            caller = self._within[-1]
            # The unknown of this call is the last one that the caller has come to.
            caller.unknowns[-1] = number
            caller.name_new(number)
        else:
            self.end = ("gives", number)

    def _value(self, now, value):
        word = value[0]
        if word == "call":
            now.unknowns.append(None)
            self._begin(index_of(self._program, value[1]), [now.worth(argument) for argument in value[2]])
        elif word == "at":
            array, index = now.known[value[1]], now.worth(value[2])
            if self._is_index(array, index):
                self._find(now, array[index])
        elif word == "middle":
            s, t = now.worth(value[1]), now.worth(value[2])
            if s > t:
                self._wrong("middle")
            else:
                self._find(now, (s + t) // 2)
        elif word == "any":
            self._draw(now)
        else:
            now.name_new(now.worth(value))

    def _find(self, now, number):
        """Take the integer of an unknown of its own."""
        now.unknowns.append(number)
        now.name_new(number)

    def _draw(self, now):
        if self._drawn == len(self._drawable):
            self.end = ("waits",)
        else:
            self._drawn += 1
            self._find(now, self._drawable[self._drawn - 1])

    def _claim(self, now, condition):
        s, t = now.worth(condition[1]), now.worth(condition[2])
        if s == t or (condition[0] == "most" and s < t):
            now.go_on(0)
        else:
            self._wrong("claim")

    def _put(self, now, body):
        array, index = now.known[body[1]], now.worth(body[2])
        if self._is_index(array, index):
            array[index] = now.worth(body[3])
            now.go_on(0)

    def _is_index(self, array, index):
        """Tell whether an index is one of an array; otherwise the run goes wrong."""
        if index < 0:
            self._wrong("below")
        elif index >= len(array):
            self._wrong("beyond")
        return self.end is None

    def _wrong(self, why):
        where = [(activation.code.name, activation.code.where[activation.at]) for activation in self._within]
        self.end = ("wrong", why, tuple(where))


def codes_of(program):
    """List the codes of the functions of a program."""
    return [Code(function) for function in program[1]]
