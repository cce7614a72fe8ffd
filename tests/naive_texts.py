"""What the document says of texts, by patterns of lines: a second reader."""

import re

from claimfall.errors import BadText

NAME = "(?!(?:fun|open|give|let|if|else|claim|never|len|any|middle)(?![a-z]))[a-z]{1,8}(?![a-z])"
MORE = "(?: [+-] [1-9][0-9]{0,8})?"
TERM = f"(?:0|-?[1-9][0-9]{{0,8}}|(?:len )?{NAME}{MORE})"
ARGUMENT = rf"(?:{TERM}|{NAME}\[\])"
CONDITION = f"(?:{TERM} <?= {TERM})"
VALUE = rf"(?:any|middle\({TERM}, {TERM}\)|{NAME}\((?:{ARGUMENT}(?:, {ARGUMENT})*)?\)|{NAME}\[{TERM}\]|{TERM})"
LINES = {
    "fun": rf"fun ({NAME})((?: {NAME}(?:\[\])?)*)",
    "give": f"give ({TERM})",
    "let": f"let ({NAME}) = ({VALUE})",
    "if": f"if ({CONDITION})",
    "claim": f"claim ({CONDITION})",
    "put": rf"({NAME})\[({TERM})\] = ({TERM})",
    "never": "never",
    "else": "else",
}
PROMISE = f"(0|(?:len )?{NAME}) <= (0|(?:len )?{NAME})({MORE})"


def match(pattern, text):
    """The groups of a text that has the pattern from its first to its last sign, or None."""
    found = re.compile(pattern).fullmatch(text)
    return None if found is None or "\n" in text else found.groups()


def number(text):
    return int(text.replace(" ", "")) if text else 0


def term(text):
    if re.fullmatch("-?[0-9]+", text):
        return ("num", int(text))
    base, more = re.fullmatch("((?:len )?[a-z]+)(.*)", text).groups()
    if base.startswith("len "):
        return ("len", base[4:], number(more))
    return ("name", base, number(more))


def condition(text):
    sign = " <= " if "<" in text else " = "
    s, t = text.split(sign)
    return ("most" if sign == " <= " else "same", term(s), term(t))


def value(text):
    if text == "any":
        return ("any",)
    if text[-1] == ")":
        name, inner = text[:-1].split("(")
        words = inner.split(", ") if inner else []
        if name == "middle":
            return ("middle", *[term(word) for word in words])
        return ("call", name, tuple(("array", word[:-2]) if word[-1] == "]" else term(word) for word in words))
    if text[-1] == "]":
        name, inner = text[:-1].split("[")
        return ("at", name, term(inner))
    return term(text)


class Slow:
    def __init__(self, text):
        lines = text.split("\n")
        self.lines = lines[:-1] if lines[-1] == "" else lines
        self.at = 0

    def fail(self, reason):
        raise BadText(self.at + 1, reason)

    def take(self, depth, words):
        """The word and the groups of the next line, which has to be one of these words."""
        if self.at == len(self.lines):
            self.fail("text ends")
        line = self.lines[self.at]
        spaces = len(line) - len(line.lstrip(" "))
        if spaces != 2 * depth:
            self.fail("bad indent")
        for word in words:
            groups = match(LINES[word], line[spaces:])
            if groups is not None:
                self.at += 1
                return word, groups
        return self.fail("unknown line")

    def whole(self):
        functions, opens = [], []
        while self.at < len(self.lines):
            line = self.lines[self.at]
            if line.startswith(" "):
                self.fail("bad indent")
            if match(LINES["fun"], line) and not opens:
                functions.append(self.function())
            else:
                opens.append(self.opening(line, functions))
                self.at += 1
        return ("program", tuple(functions), tuple(opens))

    def function(self):
        _, (name, params) = self.take(0, ["fun"])
        pairs = tuple(
            (word[:-2], "array") if word.endswith("[]") else (word, "int") for word in params.split(" ")[1:]
        )
        return ("fun", name, pairs, self.body(1))

    def opening(self, line, functions):
        head, *rest = line.split(": ", 1)
        found = [params for _, name, params, _ in functions if head == "open " + name]
        if not found:
            self.fail("unknown line")
        return (head[5:], tuple(self.promise(text, found[-1]) for text in (rest[0].split(", ") if rest else [])))

    def promise(self, text, params):
        groups = match(PROMISE, text)
        names = ["0", *["len " + name if kind == "array" else name for name, kind in params]]
        if groups is None or groups[0] not in names or groups[1] not in names or groups[0] == groups[1]:
            self.fail("bad promise")
        return (names.index(groups[0]), names.index(groups[1]), number(groups[2]))

    def body(self, depth):
        word, groups = self.take(depth, ["give", "let", "if", "claim", "put", "never"])
        if word == "never":
            return ("never",)
        if word == "give":
            return ("give", term(groups[0]))
        if word == "let":
            return ("let", groups[0], value(groups[1]), self.body(depth))
        if word == "claim":
            return ("claim", condition(groups[0]), self.body(depth))
        if word == "put":
            return ("put", groups[0], term(groups[1]), term(groups[2]), self.body(depth))
        first = self.body(depth + 1)
        self.take(depth, ["else"])
        return ("if", condition(groups[0]), first, self.body(depth + 1))


def read(text):
    """What a text tells, whether it is a program or not; raises BadText."""
    return Slow(text).whole()
