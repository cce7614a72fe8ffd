"""Desks: a program that is put together deed by deed, and what can be said of it at each time."""

from claimfall.assignments import holds, places, triples_of
from claimfall.courses import PARTS
from claimfall.errors import BadProgram, BadState
from claimfall.falling import strongest
from claimfall.least import needed
from claimfall.programs import DEEPEST, MOST_FUNCTIONS, check_program, index_of, open_of
from claimfall.shapes import are_numbers, bodies_in, has_shape, is_head, is_quality
from claimfall.texts import format_quality


class Desk:
    """Numbers, functions and opens, with the deeds that changed them."""

    def __init__(self, numbers):
        # What it holds: the numbers, and as a program, though it need not be one, the functions and the opens.
        self._held = (numbers, ("program", (), ()))
        # The deeds, each with what was held ahead of it.
        self._done = []

    def __eq__(self, other):
        if not isinstance(other, Desk):
            return NotImplemented
        return self._held == other._held

    @property
    def numbers(self):
        """The numbers."""
        return self._held[0]

    @property
    def functions(self):
        """The tuple of the functions."""
        return self._held[1][1]

    @property
    def opens(self):
        """The tuple of the opens."""
        return self._held[1][2]

    @property
    def log(self):
        """The list of the deeds that were done and not taken back."""
        return [deed for deed, _ in self._done]

    def put(self, function):
        """Put a function behind the others, or in the place of the one of its name."""
        if not is_head(function) or not _are_bodies(function[3]):
            raise BadState("this is no function")
        numbers, program = self._held
        _, functions, opens = program
        changed = _with_row(functions, index_of(program, function[1]), function)
        if len(changed) > MOST_FUNCTIONS:
            raise BadState("there are as many functions as there can be")
        self._change(("put", function), numbers, changed, opens)

    def drop(self, name):
        """Take a function away, and its open."""
        numbers, program = self._held
        _, functions, opens = program
        if index_of(program, name) == -1:
            raise BadState("there is no function of this name")
        left = tuple([function for function in functions if function[1] != name])
        self._change(("drop", name), numbers, left, _without_open(opens, name))

    def let_in(self, name, promises):
        """Open a function behind the others, or anew."""
        numbers, program = self._held
        _, functions, opens = program
        at = index_of(program, name)
        if at == -1:
            raise BadState("there is no function of this name")
        many = places(functions[at])
        if not isinstance(promises, tuple) or not all([is_quality(promise, many) for promise in promises]):
            raise BadState("these are no promises for this function")
        changed = _with_row(opens, open_of(program, name), (name, promises))
        self._change(("let_in", name, promises), numbers, functions, changed)

    def shut(self, name):
        """Take an open away."""
        numbers, program = self._held
        _, functions, opens = program
        if open_of(program, name) == -1:
            raise BadState("there is no open of this name")
        self._change(("shut", name), numbers, functions, _without_open(opens, name))

    def set_numbers(self, numbers):
        """Take other numbers."""
        if not are_numbers(numbers):
            raise BadState("these are no numbers")
        _, functions, opens = self._held[1]
        self._change(("set_numbers", numbers), numbers, functions, opens)

    def undo(self):
        """Take back the last deed and return its name, or return False if there is none."""
        if not self._done:
            return False
        deed, ahead = self._done.pop()
        self._held = ahead
        return deed[0]

    def state(self):
        """Return what can be said of the program that the desk holds."""
        numbers, program = self._held
        _, functions, opens = program
        if not functions or not opens:
            return ("open",)
        try:
            check_program(program)
        except BadProgram as error:
            return ("bad", error.function, error.reason)
        kept = strongest(program, numbers)
        return ("let", len(triples_of(kept))) if holds(program, kept) else ("refused",)

    def report(self):
        """Return the text of the state, and of the needed qualities if the program is let."""
        numbers, program = self._held
        _, functions, opens = program
        state = self.state()
        lines = [f"functions {len(functions)} opens {len(opens)} numbers {len(numbers)}", _format_state(state)]
        if state[0] == "let":
            for f, part, quality in triples_of(needed(program, numbers)):
                _, name, params, _ = functions[f]
                lines.append(f"{name} {PARTS[part]} {format_quality(params, quality)}")
        return "".join([line + "\n" for line in lines])

    def branch(self):
        """Return a desk like this one, also in what can be taken back."""
        other = Desk(self._held[0])
        other._held = self._held
        other._done = list(self._done)
        return other

    def _change(self, deed, numbers, functions, opens):
        self._done.append((deed, self._held))
        self._held = (numbers, ("program", functions, opens))


def replayed(numbers, log):
    """Return a new desk at which the deeds of a log were done."""
    desk = Desk(numbers)
    deeds = {
        "put": desk.put, "drop": desk.drop, "let_in": desk.let_in, "shut": desk.shut, "set_numbers": desk.set_numbers,
    }
    for word, *rest in log:
        deed = deeds.get(word)
        if deed is None:
            raise BadState("there is no such deed")
        deed(*rest)
    return desk


def _are_bodies(outermost):
    """Tell whether a thing is a body by its shape, with all bodies in it, not too deep within one another."""
    waiting = [(outermost, 1)]
    while waiting:
        body, depth = waiting.pop()
        if depth > DEEPEST or not has_shape("body", body):
            return False
        waiting.extend([(part, depth + 1) for part in bodies_in(body)])
    return True


def _with_row(rows, at, row):
    """Return rows with one in the place of another one, or, at -1, behind all."""
    if at == -1:
        return (*rows, row)
    return (*rows[:at], row, *rows[at + 1:])


def _without_open(opens, name):
    return tuple([pair for pair in opens if pair[0] != name])


def _format_state(state):
    if state[0] == "bad":
        _, function, reason = state
        return f"bad {function}: {reason}"
    return f"let by {state[1]}" if state[0] == "let" else state[0]
