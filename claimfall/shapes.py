"""The shapes of numbers, names, qualities and the parts of programs."""

MOST_NUMBERS = 7
GREATEST = 100
MOST_PARAMS = 5
MOST_LETTERS = 8

# For each word the kinds of what stands behind it. An "int" and an "array" are names that
# have to be known where they stand; a "function" and a "new" name are looked at otherwise.
_PARTS = {
    "num": ("number",),
    "name": ("int", "number"),
    "len": ("array", "number"),
    "array": ("array",),
    "most": ("term", "term"),
    "same": ("term", "term"),
    "at": ("array", "term"),
    "call": ("function", "arguments"),
    "any": (),
    "middle": ("term", "term"),
    "give": ("term",),
    "let": ("new", "value", "body"),
    "if": ("condition", "body", "body"),
    "claim": ("condition", "body"),
    "put": ("array", "term", "term", "body"),
    "never": (),
}

_WORDS = {
    "term": ("num", "name", "len"),
    "argument": ("num", "name", "len", "array"),
    "condition": ("most", "same"),
    "value": ("num", "name", "len", "at", "call", "any", "middle"),
    "body": ("give", "let", "if", "claim", "put", "never"),
}


def is_number(thing):
    """Tell whether a thing is an integer; True and False are none."""
    return isinstance(thing, int) and not isinstance(thing, bool)


def is_index(thing, many):
    """Tell whether a thing is the index of one of so many."""
    return is_number(thing) and 0 <= thing < many


def is_row(thing, many):
    """Tell whether a thing is a tuple of so many items."""
    return isinstance(thing, tuple) and len(thing) == many


def are_numbers(thing):
    """Tell whether a thing is a tuple of integers that qualities can have."""
    if not isinstance(thing, tuple) or len(thing) > MOST_NUMBERS or not all([is_number(number) for number in thing]):
        return False
    within = all([-GREATEST <= number <= GREATEST for number in thing])
    return within and all([ahead < number for ahead, number in zip(thing, thing[1:])])


def is_name(thing):
    """Tell whether a thing is a name: 1 to 8 letters a to z."""
    if not isinstance(thing, str) or not 1 <= len(thing) <= MOST_LETTERS:
        return False
    return all(["a" <= sign <= "z" for sign in thing])


def is_quality(thing, places):
    """Tell whether a thing is a quality of so many places."""
    if not isinstance(thing, tuple) or len(thing) != 3 or not all([is_number(part) for part in thing]):
        return False
    i, j, _ = thing
    return 0 <= i < places and 0 <= j < places and i != j


def is_head(thing):
    """Tell whether a thing is a function, whatever stands in the place of its body."""
    if not isinstance(thing, tuple) or len(thing) != 4 or thing[0] != "fun":
        return False
    return is_name(thing[1]) and _are_params(thing[2])


def _are_params(thing):
    if not isinstance(thing, tuple) or len(thing) > MOST_PARAMS or not all([_is_param(pair) for pair in thing]):
        return False
    return len(set([name for name, _ in thing])) == len(thing)


def _is_param(thing):
    if not isinstance(thing, tuple) or len(thing) != 2:
        return False
    return is_name(thing[0]) and thing[1] in ("int", "array")


def has_shape(family, thing):
    """Tell whether a thing is a term, condition, value or body by its own shape; bodies in it are not looked at."""
    if not isinstance(thing, tuple) or len(thing) == 0 or not isinstance(thing[0], str):
        return False
    if thing[0] not in _WORDS[family]:
        return False
    kinds = _PARTS[thing[0]]
    return len(thing) == len(kinds) + 1 and all([_is_part(kind, part) for kind, part in zip(kinds, thing[1:])])


def _is_part(kind, thing):
    if kind == "body":
        return True
    if kind == "number":
        return is_number(thing)
    if kind in ("int", "array", "function", "new"):
        return is_name(thing)
    if kind == "arguments":
        return isinstance(thing, tuple) and all([has_shape("argument", argument) for argument in thing])
    return has_shape(kind, thing)


def names_in(thing):
    """List the pairs (kind, name) of the integers and arrays in a thing, from the left, without those in its bodies."""
    found = []
    for kind, part in zip(_PARTS[thing[0]], thing[1:]):
        if kind in ("int", "array"):
            found.append((kind, part))
        elif kind == "arguments":
            for argument in part:
                found.extend(names_in(argument))
        elif kind in ("term", "condition", "value"):
            found.extend(names_in(part))
    return found


def bodies_in(thing):
    """List the bodies that stand in a body, the first one of an if ahead of the second."""
    return [part for kind, part in zip(_PARTS[thing[0]], thing[1:]) if kind == "body"]
