"""Programs and bodies that the tests share."""

ZERO = ("num", 0)
GIVE = ("give", ZERO)
MOST = ("most", ZERO, ("num", 1))
SAME = ("same", ZERO, ("num", 1))

# Neither numbers nor names nor parts of programs.
JUNK = (None, True, False, 0, -1, 7, "", "give", "program", (), [], ((),), ("give",), ["give", ZERO], (True, "x"))

# The program of the document's example.
WALK = (
    "if", ("most", ("len", "a", 0), ("name", "x", 0)),
    ("give", ("name", "x", 0)),
    ("let", "v", ("at", "a", ("name", "x", 0)),
     ("let", "u", ("call", "f", (("array", "a"), ("name", "x", 1))), ("give", ("name", "u", 0)))),
)
FIRST = ("let", "u", ("call", "f", (("array", "a"), ("num", 0))), ("give", ("name", "u", 0)))
EXAMPLE = (
    "program",
    (("fun", "f", (("a", "array"), ("x", "int")), WALK), ("fun", "g", (("a", "array"),), FIRST)),
    (("g", ()),),
)

# Deeper than any step by step way into it could go.
DEEP = ()
for _ in range(100000):
    DEEP = (DEEP,)


def name(x, c=0):
    return ("name", x, c)


def fun(word, params, body):
    return ("fun", word, params, body)


def program_of(*bodies):
    """A program with functions a, b, .. of an int x and an array r; the first one is open."""
    params = (("x", "int"), ("r", "array"))
    functions = tuple([fun("abcdefgh"[at], params, body) for at, body in enumerate(bodies)])
    return ("program", functions, (("a", ()),))


def claims(many, body=GIVE):
    """A body with so many claims around it."""
    for _ in range(many):
        body = ("claim", MOST, body)
    return body


def block(many):
    """A body with so many bodies in all, not too deep and without too many paths."""
    if many <= 45:
        return claims(many - 1)
    half = (many - 1) // 2
    return ("if", MOST, block(half), block(many - 1 - half))


def most_ways(many):
    """A body with so many paths, by ifs with "most"."""
    if many == 1:
        return GIVE
    return ("if", MOST, most_ways(many // 2), most_ways(many - many // 2))


def same_ways(many):
    """A body with so many paths, by ifs with "same" where that can be."""
    if many == 1:
        return GIVE
    if many == 2:
        return ("if", MOST, GIVE, GIVE)
    ahead = 2 - many % 2
    return ("if", SAME, same_ways(ahead), same_ways((many - ahead) // 2))
