"""Texts: how a program is written line by line, and read again."""

from claimfall.errors import BadText
from claimfall.lines import read_head, read_opened, read_part, read_promise
from claimfall.programs import check_program, index_of
from claimfall.shapes import bodies_in

STEP = "  "


def format_program(program):
    """Return the text of a program."""
    _, functions, opens = program
    lines = []
    for _, name, params, body in functions:
        lines.append(" ".join(["fun", name, *[_format_param(param) for param in params]]))
        lines.extend(_format_body(body))
    for name, promises in opens:
        params = functions[index_of(program, name)][2]
        told = ", ".join([format_quality(params, promise) for promise in promises])
        lines.append(f"open {name}: {told}" if promises else f"open {name}")
    return "".join([line + "\n" for line in lines])


def format_quality(params, quality):
    """Return a quality as promises are written, the place behind the params as `result`."""
    i, j, c = quality
    names = ["0", *["len " + name if kind == "array" else name for name, kind in params], "result"]
    return f"{names[i]} <= {_moved(names[j], c)}"


def read_program(text):
    """Return the program of a text; raise BadText with the first wrong line, or BadProgram if it is no program."""
    lines = text.split("\n")
    if lines[-1] == "":
        lines.pop()
    reader = Reader()
    for line in lines:
        reader.read(line)
    program = reader.finish()
    check_program(program)
    return program


def _format_body(outermost):
    """List the lines of a body that stands in a function."""
    lines = []
    # Pairs (body, how far in it stands), with None for an else.
    waiting = [(outermost, 1)]
    while waiting:
        body, depth = waiting.pop()
        if body is None:
            lines.append(STEP * depth + "else")
        else:
            lines.append(STEP * depth + _format_part(body))
            waiting.extend(_rows_within(bodies_in(body), depth))
    return lines


def _rows_within(bodies, depth):
    """List what follows on the line of a body that has these bodies, the next one last."""
    if len(bodies) == 2:
        return [(bodies[1], depth + 1), (None, depth), (bodies[0], depth + 1)]
    return [(body, depth) for body in bodies]


def _format_part(body):
    word = body[0]
    if word == "give":
        return f"give {_format_term(body[1])}"
    if word == "let":
        return f"let {body[1]} = {_format_value(body[2])}"
    if word in ("if", "claim"):
        kind, s, t = body[1]
        sign = "<=" if kind == "most" else "="
        return f"{word} {_format_term(s)} {sign} {_format_term(t)}"
    if word == "put":
        return f"{body[1]}[{_format_term(body[2])}] = {_format_term(body[3])}"
    return word


def _format_value(value):
    word = value[0]
    if word == "at":
        return f"{value[1]}[{_format_term(value[2])}]"
    if word == "call":
        told = ", ".join([_format_term(argument) for argument in value[2]])
        return f"{value[1]}({told})"
    if word == "middle":
        return f"middle({_format_term(value[1])}, {_format_term(value[2])})"
    return "any" if word == "any" else _format_term(value)


def _format_term(term):
    """Return a term, or an array as an argument."""
    if term[0] == "num":
        return str(term[1])
    if term[0] == "array":
        return f"{term[1]}[]"
    return _moved(f"len {term[1]}" if term[0] == "len" else term[1], term[2])


def _format_param(param):
    name, kind = param
    return name + "[]" if kind == "array" else name


def _moved(base, c):
    if c == 0:
        return base
    return f"{base} + {c}" if c > 0 else f"{base} - {-c}"


class Reader:
    """Reads a text line by line."""

    def __init__(self):
        self._functions = []
        self._opens = []
        # Of the function that is read: its name and params, its bodies without the bodies in them, and what is still
        # to come, the next one last: pairs (word, how far in it stands), the words being "body" and "else".
        self._head = None
        self._bodies = []
        self._waiting = []
        self._many = 0

    def read(self, line):
        """Take the next line."""
        self._many += 1
        word, depth = self._waiting.pop() if self._waiting else ("top", 0)
        told = line.lstrip(" ")
        if len(line) - len(told) != len(STEP) * depth:
            raise BadText(self._many, "bad indent")
        if word == "top":
            self._read_top(told)
        elif word == "body":
            self._read_body(told, depth)
        elif told != "else":
            raise BadText(self._many, "unknown line")
        if not self._waiting and self._head is not None:
            self._functions.append(("fun", *self._head, _built(self._bodies)))
            self._head = None

    def finish(self):
        """Return what the lines tell, a program or not."""
        if self._waiting:
            raise BadText(self._many + 1, "text ends")
        return ("program", tuple(self._functions), tuple(self._opens))

    def _read_top(self, line):
        head = read_head(line)
        if head is not None and not self._opens:
            self._head = head
            self._bodies = []
            self._waiting = [("body", 1)]
        else:
            self._read_open(line)

    def _read_open(self, line):
        head, sign, rest = line.partition(": ")
        name = read_opened(head)
        # The params of the last function of this name.
        found = [params for _, known, params, _ in self._functions if known == name]
        if not found:
            raise BadText(self._many, "unknown line")
        promises = tuple([read_promise(word, found[-1]) for word in rest.split(", ")]) if sign else ()
        if None in promises:
            raise BadText(self._many, "bad promise")
        self._opens.append((name, promises))

    def _read_body(self, line, depth):
        part = read_part(line)
        if part is None:
            raise BadText(self._many, "unknown line")
        self._bodies.append(part)
        if part[0] == "if":
            self._waiting.extend([("body", depth + 1), ("else", depth), ("body", depth + 1)])
        elif part[0] not in ("give", "never"):
            self._waiting.append(("body", depth))


def _built(parts):
    """Return the outermost one of some bodies, each of which is told ahead of the bodies in it, without these."""
    built = []
    for part in reversed(parts):
        if part[0] == "if":
            first, second = built.pop(), built.pop()
            built.append((*part, first, second))
        elif part[0] in ("give", "never"):
            built.append(part)
        else:
            built.append((*part, built.pop()))
    return built[0]
