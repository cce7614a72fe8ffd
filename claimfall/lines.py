"""Lines: what a line of the text of a program says, letter by letter, or None if it is no such line."""

from claimfall.shapes import is_name

WORDS = ("fun", "open", "give", "let", "if", "else", "claim", "never", "len", "any", "middle")
MOST_DIGITS = 9


def read_head(line):
    """Return the pair (name, params) of a line fun."""
    word, *rest = line.split(" ")
    if word != "fun" or not rest:
        return None
    return _whole([_read_name(rest[0]), _whole([_read_param(word) for word in rest[1:]])])


def read_opened(line):
    """Return the name in the beginning of a line open."""
    word, _, name = line.partition(" ")
    return _read_name(name) if word == "open" else None


def read_part(line):
    """Return the body of a line of a body without the bodies in it."""
    word, _, rest = line.partition(" ")
    if line == "never":
        return ("never",)
    if word == "give":
        return _whole(["give", read_term(rest)])
    if word in ("if", "claim"):
        return _whole([word, _read_condition(rest)])
    target, _, rest = line.partition(" = ")
    if word == "let":
        return _whole(["let", _read_name(target[len("let "):]), _read_value(rest)])
    return _whole(["put", *_read_entry(target), read_term(rest)])


def read_promise(text, params):
    """Return the quality of the places of some params that a promise tells."""
    first, _, rest = text.partition(" <= ")
    second, c = _parted(rest)
    # Place 0 is the number 0 itself; the other ones are told by their names.
    told = ["0", *["len " + name if kind == "array" else name for name, kind in params]]
    if first not in told or second not in told or first == second:
        return None
    return (told.index(first), told.index(second), c)


def read_term(text):
    """Return the term that a text tells."""
    number = _read_number(text)
    if number is not None:
        return ("num", number)
    base, c = _parted(text)
    if base.startswith("len "):
        return _whole(["len", _read_name(base[len("len "):]), c])
    return _whole(["name", _read_name(base), c])


def _read_param(word):
    if word.endswith("[]"):
        return _whole([_read_name(word[:-2]), "array"])
    return _whole([_read_name(word), "int"])


def _read_condition(text):
    for sign, word in ((" <= ", "most"), (" = ", "same")):
        if sign in text:
            s, _, t = text.partition(sign)
            return _whole([word, read_term(s), read_term(t)])
    return None


def _read_value(text):
    if text == "any":
        return ("any",)
    if text.endswith(")"):
        return _read_call(text)
    if text.endswith("]"):
        return _whole(["at", *_read_entry(text)])
    return read_term(text)


def _read_call(text):
    name, sign, rest = text[:-1].partition("(")
    words = rest.split(", ") if rest else []
    if name == "middle" and len(words) == 2:
        return _whole(["middle", read_term(words[0]), read_term(words[1])])
    arguments = _whole([_read_argument(word) for word in words])
    return _whole(["call", _read_name(name), arguments]) if sign else None


def _read_argument(text):
    if text.endswith("[]"):
        return _whole(["array", _read_name(text[:-2])])
    return read_term(text)


def _read_entry(text):
    """Return the list of the array and the term of an entry, None in the place of what is none."""
    name, _, rest = text.partition("[")
    return [_read_name(name), read_term(rest[:-1]) if rest.endswith("]") else None]


def _parted(text):
    """Return what stands ahead of ` + C` or ` - C`, and C with its sign; or the whole text, and 0."""
    for sign, factor in ((" + ", 1), (" - ", -1)):
        base, found, digits = text.partition(sign)
        number = _read_number(digits)
        if found and number is not None and number > 0:
            return base, factor * number
    return text, 0


def _read_number(text):
    digits = text[1:] if text.startswith("-") else text
    if not 1 <= len(digits) <= MOST_DIGITS or not all(["0" <= sign <= "9" for sign in digits]):
        return None
    # Without zeros in front, and no -0.
    return int(text) if str(int(text)) == text else None


def _read_name(text):
    return text if is_name(text) and text not in WORDS else None


def _whole(parts):
    """Return the tuple of some parts, or None if one of them is None."""
    return None if None in parts else tuple(parts)
