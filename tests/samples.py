"""Programs and bodies that the tests share."""

ZERO = ("num", 0)
GIVE = ("give", ZERO)
MOST = ("most", ZERO, ("num", 1))
SAME = ("same", ZERO, ("num", 1))

# Neither numbers nor names nor parts of programs.
JUNK = (None, True, False, 0, -1, 7, "", "give", "program", (), [], ((),), ("give",), ["give", ZERO], (True, "x"))

# The program of the document's example.
WALK = (
    "if", ("most", ("len", "a", 0), ("name", "x", 0)),
    ("give", ("name", "x", 0)),
    ("let", "v", ("at", "a", ("name", "x", 0)),
     ("let", "u", ("call", "f", (("array", "a"), ("name", "x", 1))), ("give", ("name", "u", 0)))),
)
FIRST = ("let", "u", ("call", "f", (("array", "a"), ("num", 0))), ("give", ("name", "u", 0)))
EXAMPLE = (
    "program",
    (("fun", "f", (("a", "array"), ("x", "int")), WALK), ("fun", "g", (("a", "array"),), FIRST)),
    (("g", ()),),
)

# What the document tells of its example with the numbers (0,): all that is left of f and of g.
EXAMPLE_KEPT = (
    (((0, 1, 0), (0, 2, 0), (2, 1, 0)), ((0, 1, 0), (0, 2, 0), (0, 3, 0), (1, 3, 0), (2, 1, 0), (2, 3, 0), (3, 1, 0))),
    (((0, 1, 0),), ((0, 1, 0), (0, 2, 0), (1, 2, 0), (2, 1, 0))),
)

# Two functions that call one another, both open: the greater the difference, the longer they go on.
DOWN = (
    "program",
    (
        ("fun", "even", (("n", "int"),),
         ("if", ("most", ("name", "n", 0), ("num", 0)), ("claim", ("same", ("name", "n", 0), ("num", 0)), ("give", ("num", 1))),
          ("let", "u", ("call", "odd", (("name", "n", -1),)), ("give", ("name", "u", 0))))),
        ("fun", "odd", (("n", "int"),),
         ("if", ("most", ("name", "n", 0), ("num", 0)), ("give", ("num", 0)),
          ("let", "u", ("call", "even", (("name", "n", -1),)), ("give", ("name", "u", 0))))),
    ),
    (("odd", ((0, 1, -3),)), ("even", ((0, 1, 0),))),
)

# A search in the halves of an array, from low to below high; let with the number 0.
HALVES = (
    "program",
    (
        ("fun", "find", (("a", "array"), ("low", "int"), ("high", "int"), ("x", "int")),
         ("if", ("most", ("name", "high", 0), ("name", "low", 0)), ("give", ("name", "low", 0)),
          ("let", "m", ("middle", ("name", "low", 0), ("name", "high", -1)),
           ("let", "v", ("at", "a", ("name", "m", 0)),
            ("if", ("most", ("name", "x", 0), ("name", "v", 0)),
             ("let", "u", ("call", "find", (("array", "a"), ("name", "low", 0), ("name", "m", 0), ("name", "x", 0))),
              ("give", ("name", "u", 0))),
             ("let", "u", ("call", "find", (("array", "a"), ("name", "m", 1), ("name", "high", 0), ("name", "x", 0))),
              ("give", ("name", "u", 0)))))),),
         ),
        ("fun", "all", (("a", "array"), ("x", "int")),
         ("let", "u", ("call", "find", (("array", "a"), ("num", 0), ("len", "a", 0), ("name", "x", 0))),
          ("give", ("name", "u", 0)))),
    ),
    (("all", ()),),
)

# An entry without a test of its index: let with both of the numbers -1 and 0, but not with one of them alone.
BOTH = (
    "program",
    (
        ("fun", "entry", (("a", "array"), ("i", "int")),
         ("let", "v", ("at", "a", ("name", "i", 0)), ("give", ("name", "v", 0)))),
        ("fun", "first", (("a", "array"),),
         ("if", ("most", ("num", 1), ("len", "a", 0)),
          ("let", "u", ("call", "entry", (("array", "a"), ("num", 0))), ("give", ("name", "u", 0))),
          ("give", ("num", 0)))),
    ),
    (("first", ()),),
)

# Not let with any numbers.
LOST = ("program", (("fun", "f", (("x", "int"),), ("claim", ("most", ("num", 0), ("name", "x", 0)), ("never",))),), (("f", ()),))

# Deeper than any step by step way into it could go.
DEEP = ()
for _ in range(100000):
    DEEP = (DEEP,)


def name(x, c=0):
    return ("name", x, c)


def fun(word, params, body):
    return ("fun", word, params, body)


def program_of(*bodies):
    """A program with functions a, b, .. of an int x and an array r; the first one is open."""
    params = (("x", "int"), ("r", "array"))
    functions = tuple([fun("abcdefgh"[at], params, body) for at, body in enumerate(bodies)])
    return ("program", functions, (("a", ()),))


def claims(many, body=GIVE):
    """A body with so many claims around it."""
    for _ in range(many):
        body = ("claim", MOST, body)
    return body


def block(many):
    """A body with so many bodies in all, not too deep and without too many paths."""
    if many <= 45:
        return claims(many - 1)
    half = (many - 1) // 2
    return ("if", MOST, block(half), block(many - 1 - half))


def most_ways(many):
    """A body with so many paths, by ifs with "most"."""
    if many == 1:
        return GIVE
    return ("if", MOST, most_ways(many // 2), most_ways(many - many // 2))


def same_ways(many):
    """A body with so many paths, by ifs with "same" where that can be."""
    if many == 1:
        return GIVE
    if many == 2:
        return ("if", MOST, GIVE, GIVE)
    ahead = 2 - many % 2
    return ("if", SAME, same_ways(ahead), same_ways((many - ahead) // 2))
