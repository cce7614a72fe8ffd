"""x1, x2 and u1: how a program is written, and how a text is read."""

import unittest

from claimfall.errors import BadProgram, BadText
from claimfall.programs import check_program
from claimfall.texts import format_program, read_program
from tests import naive_texts
from tests.asks import Unchanged
from tests.chance import Maker
from tests.samples import BOTH, DOWN, EXAMPLE, GIVE, HALVES, LOST, MOST, block, claims, fun, most_ways, name, program_of

X = name("x")
WORDS = ("fun", "open", "give", "let", "if", "else", "claim", "never", "len", "any", "middle")

# A text with each kind of line.
WHOLE = """\
fun none
  give -7
fun some x r[] y
  if x <= len r - 1
    if 0 = y
      let v = r[x + 1]
      r[v] = len r
      never
    else
      let v = middle(x, y - 3)
      claim v = 12
      let w = none()
      give w + 1
  else
    let z = any
    let z = some(z, r[], len r + 9)
    let x = -5
    claim x <= z
    give len r
open some: 0 <= x, x <= len r - 1, y <= 0 + 20, len r <= y
open none
"""
PARTS = (
    "program",
    (
        ("fun", "none", (), ("give", ("num", -7))),
        ("fun", "some", (("x", "int"), ("r", "array"), ("y", "int")), (
            "if", ("most", ("name", "x", 0), ("len", "r", -1)),
            ("if", ("same", ("num", 0), ("name", "y", 0)),
             ("let", "v", ("at", "r", ("name", "x", 1)), ("put", "r", ("name", "v", 0), ("len", "r", 0), ("never",))),
             ("let", "v", ("middle", ("name", "x", 0), ("name", "y", -3)),
              ("claim", ("same", ("name", "v", 0), ("num", 12)),
               ("let", "w", ("call", "none", ()), ("give", ("name", "w", 1)))))),
            ("let", "z", ("any",),
             ("let", "z", ("call", "some", (("name", "z", 0), ("array", "r"), ("len", "r", 9))),
              ("let", "x", ("num", -5),
               ("claim", ("most", ("name", "x", 0), ("name", "z", 0)), ("give", ("len", "r", 0)))))),
        )),
    ),
    (("some", ((0, 1, 0), (1, 2, -1), (3, 0, 20), (2, 3, 0))), ("none", ())),
)


def with_body(*lines):
    """A text of one function of an int x and an array r, with these lines as its body."""
    return "fun f x r[]\n" + "".join("  " + line + "\n" for line in lines) + "open f\n"


class Asks(unittest.TestCase):
    def assert_bad(self, text, line, reason):
        with self.assertRaises(BadText) as caught:
            read_program(text)
        self.assertEqual((caught.exception.line, caught.exception.reason), (line, reason), text)
        # The second reader says so, too.
        with self.assertRaises(BadText) as caught:
            naive_texts.read(text)
        self.assertEqual((caught.exception.line, caught.exception.reason), (line, reason), text)

    def assert_no_program(self, text, function, reason):
        with self.assertRaises(BadProgram) as caught:
            read_program(text)
        self.assertEqual((caught.exception.function, caught.exception.reason), (function, reason), text)

    def assert_lines(self, body, *lines):
        """A body is written so, and read again."""
        program = ("program", (fun("f", (("x", "int"), ("r", "array")), body),), (("f", ()),))
        self.assertEqual(format_program(program), with_body(*lines))
        self.assertEqual(read_program(with_body(*lines)), program)


class Format(Asks):
    def test_the_example(self):
        self.assertEqual(format_program(EXAMPLE), (
            "fun f a[] x\n  if len a <= x\n    give x\n  else\n    let v = a[x]\n    let u = f(a[], x + 1)\n    give u\n"
            "fun g a[]\n  let u = f(a[], 0)\n  give u\nopen g\n"
        ))

    def test_each_kind_of_line(self):
        check_program(PARTS)
        self.assertEqual(format_program(PARTS), WHOLE)

    def test_terms(self):
        for term, text in (
            (("num", 0), "0"), (("num", 5), "5"), (("num", -5), "-5"), (("num", 10 ** 8), "100000000"),
            (("name", "x", 0), "x"), (("name", "x", 3), "x + 3"), (("name", "x", -3), "x - 3"),
            (("len", "r", 0), "len r"), (("len", "r", 12), "len r + 12"), (("len", "r", -1), "len r - 1"),
        ):
            self.assert_lines(("give", term), "give " + text)
            self.assert_lines(("let", "u", term, GIVE), "let u = " + text, "give 0")
            self.assert_lines(("let", "u", ("at", "r", term), GIVE), f"let u = r[{text}]", "give 0")
            self.assert_lines(("put", "r", term, X, GIVE), f"r[{text}] = x", "give 0")
            self.assert_lines(("put", "r", X, term, GIVE), f"r[x] = {text}", "give 0")
            self.assert_lines(("let", "u", ("middle", term, X), GIVE), f"let u = middle({text}, x)", "give 0")
            self.assert_lines(("let", "u", ("middle", X, term), GIVE), f"let u = middle(x, {text})", "give 0")
            self.assert_lines(("let", "u", ("call", "f", (term, ("array", "r"))), GIVE), f"let u = f({text}, r[])", "give 0")
            for word, sign in (("most", "<="), ("same", "=")):
                self.assert_lines(("claim", (word, term, X), GIVE), f"claim {text} {sign} x", "give 0")
                self.assert_lines(("if", (word, X, term), GIVE, ("never",)), f"if x {sign} {text}", "  give 0", "else", "  never")

    def test_a_call_without_arguments(self):
        program = ("program", (fun("f", (), ("let", "u", ("call", "f", ()), GIVE)),), (("f", ()),))
        self.assertEqual(format_program(program), "fun f\n  let u = f()\n  give 0\nopen f\n")
        self.assertEqual(read_program(format_program(program)), program)

    def test_promises(self):
        params = (("x", "int"), ("r", "array"))
        rows = (((0, 1, 0), "0 <= x"), ((1, 0, 0), "x <= 0"), ((1, 0, 7), "x <= 0 + 7"), ((0, 2, -7), "0 <= len r - 7"),
                ((2, 1, 1), "len r <= x + 1"), ((1, 2, -1), "x <= len r - 1"))
        for many in (0, 1, 2, 6):
            promises = tuple(quality for quality, _ in rows[:many])
            told = ": " + ", ".join(text for _, text in rows[:many]) if many else ""
            program = ("program", (fun("f", params, GIVE),), (("f", promises),))
            self.assertEqual(format_program(program), f"fun f x r[]\n  give 0\nopen f{told}\n")
            self.assertEqual(read_program(format_program(program)), program)

    def test_great_numbers_and_names_that_are_words(self):
        great = 10 ** 3999 + 7
        body = ("let", "u", ("num", -great), ("give", name("u", great)))
        program = ("program", (fun("f", (), body),), (("f", ()),))
        self.assertEqual(format_program(program), f"fun f\n  let u = -{great}\n  give u + {great}\nopen f\n")
        self.assert_bad(format_program(program), 2, "unknown line")

    def test_deep_bodies(self):
        ifs = GIVE
        for _ in range(59):
            ifs = ("if", MOST, ("never",), ifs)
        for body in (claims(59), ifs, claims(30, ("if", MOST, claims(28), ("give", X)))):
            program = ("program", (fun("f", (("x", "int"),), body),), (("f", ()),))
            check_program(program)
            self.assertEqual(read_program(format_program(program)), program)
        lines = format_program(("program", (fun("f", (), ifs),), (("f", ()),))).split("\n")
        self.assertEqual(lines[-3], "  " * 60 + "give 0")
        self.assertEqual(lines[-4], "  " * 59 + "else")

    def test_many_bodies(self):
        for body in (block(2000), most_ways(200)):
            program = program_of(body)
            self.assertEqual(read_program(format_program(program)), program)


class Read(Asks):
    def test_each_kind_of_line(self):
        self.assertEqual(read_program(WHOLE), PARTS)
        self.assertEqual(naive_texts.read(WHOLE), PARTS)

    def test_without_the_last_newline(self):
        for program in (EXAMPLE, DOWN, HALVES, BOTH, LOST, PARTS):
            text = format_program(program)
            self.assertTrue(text.endswith("\n"))
            self.assertEqual(read_program(text), program)
            self.assertEqual(read_program(text[:-1]), program)

    def test_by_chance(self):
        for seed in range(300):
            maker = Maker(seed)
            program = maker.program(functions=5, params=5, depth=8)
            with self.subTest(seed):
                self.assertEqual(read_program(format_program(program)), program)

    def test_the_empty_text(self):
        self.assert_no_program("", -1, "not a program")
        self.assert_bad("\n", 1, "unknown line")
        self.assert_bad(" ", 1, "bad indent")
        self.assert_bad(" \n", 1, "bad indent")

    def test_empty_lines(self):
        lines = WHOLE.split("\n")
        for at in range(len(lines)):
            text = "\n".join([*lines[:at], "", *lines[at:]])
            outside = at in (0, 2) or at >= 19
            self.assert_bad(text, at + 1, "unknown line" if outside else "bad indent")
        self.assert_bad(WHOLE + "\n", 22, "unknown line")

    def test_numbers(self):
        for text, number in (("0", 0), ("1", 1), ("-1", -1), ("999999999", 999999999), ("-999999999", -999999999),
                             ("100000000", 10 ** 8)):
            self.assertEqual(read_program(with_body("give " + text))[1][0][3], ("give", ("num", number)))
        for text in ("00", "01", "-0", "-01", "1000000000", "-1000000000", "0000000001", "--1", "+1", "- 1", "1-", "-", "",
                     "1.0", "1_0", "0x1", "1 ", "\u0661", "\u00b2", "1e3", "1\t", "\t1", "1\r"):
            self.assert_bad(with_body("give " + text), 2, "unknown line")

    def test_numbers_behind_a_sign(self):
        for base, word in (("x", "name"), ("len r", "len")):
            for text, number in ((" + 1", 1), (" - 1", -1), (" + 999999999", 999999999), (" - 100000000", -10 ** 8)):
                told = read_program(with_body("give " + base + text))[1][0][3]
                self.assertEqual(told, ("give", (word, base[-1], number)))
            for text in (" + 0", " - 0", " + 01", " + -1", " - -1", " + 1000000000", "+ 1", " +1", "+1", " +  1", "  + 1",
                         " + 1 + 1", " - 1 - 1", " + 1 - 1", " + x", " +", " + ", "+", " ", " * 2", " + 1 ", "[]", "[0]", "()"):
                self.assert_bad(with_body("give " + base + text), 2, "unknown line")
        for text in ("0 + 1", "1 - 1", "len", "len ", "len x r", "len  r", "lenr s", "len 0", "r[0]", "f(x, r[])", "any", "X"):
            self.assert_bad(with_body("give " + text), 2, "unknown line")

    def test_names(self):
        for word in ("a", "abcdefgh", "lenx", "iff", "funs", "nev", "givee", "anyx", "opens", "middl", "elsee", "z"):
            self.assertEqual(read_program(f"fun {word}\n  give 0\nopen {word}\n")[2], ((word, ()),))
            self.assertEqual(read_program(f"fun f {word}\n  give {word}\nopen f: 0 <= {word}\n")[2], (("f", ((0, 1, 0),)),))
            self.assertEqual(read_program(with_body(f"let {word} = 0", f"give {word} - 1"))[1][0][3][1], word)
            text = f"fun {word} {word}[]\n  {word}[0] = len {word}\n  let y = {word}({word}[])\n  give 0\nopen {word}: 0 <= len {word}\n"
            self.assertEqual(read_program(text)[1][0][1:3], (word, ((word, "array"),)))

    def test_words_that_are_no_names(self):
        for word in (*WORDS, "abcdefghi", "", "A", "a1", "a_b", "\u00e4", "a-b", "f\u0131", "a[]b", "a[]"):
            self.assert_bad(f"fun {word}\n  give 0\n", 1, "unknown line")
            self.assert_bad(with_body(f"let {word} = 0", "give 0"), 2, "unknown line")
            if word not in ("len", "any"):
                self.assert_bad(with_body(f"give {word}"), 2, "unknown line")
            self.assert_bad(with_body(f"give len {word}"), 2, "unknown line")
            self.assert_bad(with_body(f"let u = {word}[0]", "give 0"), 2, "unknown line")
            self.assert_bad(with_body(f"{word}[0] = 0", "give 0"), 2, "unknown line")
            self.assert_bad(with_body(f"let u = {word}(x, r[])", "give 0"), 2, "unknown line")
            self.assert_bad(with_body(f"let u = f(x, {word}[])", "give 0"), 2, "unknown line")
            if word != "a[]":
                self.assert_bad(with_body(f"let u = f({word}, r[])", "give 0"), 2, "unknown line")
                self.assert_bad(f"fun f {word}\n  give 0\n", 1, "unknown line")
            self.assert_bad(f"fun f {word}[]\n  give 0\n", 1, "unknown line")
            self.assert_bad(f"fun f\n  give 0\nopen {word}\n", 3, "unknown line")
            self.assert_bad(f"fun f x\n  give 0\nopen f: 0 <= {word}\n", 3, "bad promise")

    def test_the_name_of_a_let_that_is_any_or_len(self):
        self.assert_bad(with_body("give any"), 2, "unknown line")
        self.assertEqual(read_program(with_body("let u = any", "give 0"))[1][0][3][2], ("any",))
        for text in ("any ", " any", "any()", "any + 1", "middle", "middle()", "middle(x)", "middle(x, x, x)", "middle(x,x)",
                     "middle(x, r[])", "middle (x, x)", "middle(x, x) + 1", "f", "f (x, r[])", "f(x, r[]) + 1", "f(x, r[]", "f x, r[])",
                     "f(x , r[])", "f( x, r[])", "f(x, r[] )", "f(x,r[])", "f(x, r[0])", "f(x, r[],)", "f(, )", "f(f(x, r[]), r[])",
                     "r[]", "r[x", "r x]", "r[x]]", "r[[x]]", "r[r[x]]", "r[x] + 1", "r [x]", "r[ x]", "r[x ]", "len r[0]", "x = x"):
            if text != "f":
                self.assert_bad(with_body(f"let u = {text}", "give 0"), 2, "unknown line")

    def test_one_sign_more_one_less_one_other(self):
        lines = WHOLE.split("\n")[:-1]
        for at, line in enumerate(lines):
            for place in range(len(line) + 1):
                for sign in ("", " ", "x", "0", "=", "[", ")", ","):
                    for rest in (line[place:], line[place + 1:]):
                        text = "\n".join([*lines[:at], line[:place] + sign + rest, *lines[at + 1:]]) + "\n"
                        self.assert_read_as(text)

    def assert_read_as(self, text):
        """The reader and the second one say the same."""
        try:
            program, wrong = naive_texts.read(text), None
        except BadText as error:
            program, wrong = None, (error.line, error.reason)
        try:
            told = read_program(text)
        except BadText as error:
            self.assertEqual((error.line, error.reason), wrong, text)
        except BadProgram as error:
            with self.assertRaises(BadProgram) as caught:
                check_program(program)
            self.assertEqual((error.function, error.reason), (caught.exception.function, caught.exception.reason), text)
        else:
            self.assertEqual(told, program, text)
            check_program(program)

    def test_spaces_ahead(self):
        lines = WHOLE.split("\n")[:-1]
        for at, line in enumerate(lines):
            for other in (" " + line, "  " + line, line[1:], line[2:]):
                text = "\n".join([*lines[:at], other, *lines[at + 1:]])
                if line.startswith(" ") or other.startswith(" "):
                    self.assert_bad(text, at + 1, "bad indent")
            self.assert_bad("\n".join([*lines[:at], "\t" + line.lstrip(" "), *lines[at + 1:]]), at + 1,
                            "bad indent" if line.startswith(" ") else "unknown line")

    def test_spaces_behind_and_within(self):
        lines = WHOLE.split("\n")[:-1]
        for at, line in enumerate(lines[:-2]):
            self.assert_bad("\n".join([*lines[:at], line + " ", *lines[at + 1:]]), at + 1, "unknown line")
            start = len(line) - len(line.lstrip(" "))
            for place in range(start, len(line)):
                if line[place] == " ":
                    # None at all can come to another name: the test ahead looks at these.
                    for gap in ("  ", "\t"):
                        self.assert_bad("\n".join([*lines[:at], line[:place] + gap + line[place + 1:], *lines[at + 1:]]),
                                        at + 1, "unknown line")

    def test_lines_where_they_cannot_stand(self):
        head, body, opening = "fun f x r[]\n", "  give 0\n", "open f\n"
        self.assert_bad(body, 1, "bad indent")
        self.assert_bad("give 0\n", 1, "unknown line")
        self.assert_bad("else\n", 1, "unknown line")
        self.assert_bad("never\n", 1, "unknown line")
        self.assert_bad(head + body + body, 3, "bad indent")
        self.assert_bad(head + body + "give 0\n", 3, "unknown line")
        self.assert_bad(head + body + "  else\n", 3, "bad indent")
        self.assert_bad(head + "  else\n" + body, 2, "unknown line")
        self.assert_bad(head + head + body, 2, "bad indent")
        self.assert_bad(head + "  fun g\n" + body, 2, "unknown line")
        self.assert_bad(head + opening + body, 2, "bad indent")
        self.assert_bad(head + "  open f\n" + body, 2, "unknown line")
        self.assert_bad(head + "  claim 0 = 0\n" + opening, 3, "bad indent")
        self.assert_bad(head + "  claim 0 = 0\n  else\n", 3, "unknown line")
        self.assert_bad(head + "    give 0\n", 2, "bad indent")
        self.assert_bad(head + "give 0\n", 2, "bad indent")

    def test_ifs(self):
        head = "fun f\n  if 0 = 0\n"
        self.assert_bad(head + "  give 0\n", 3, "bad indent")
        self.assert_bad(head + "      give 0\n", 3, "bad indent")
        self.assert_bad(head + "  else\n", 3, "bad indent")
        self.assert_bad(head + "    else\n", 3, "unknown line")
        self.assert_bad(head + "    give 0\n    else\n", 4, "bad indent")
        self.assert_bad(head + "    give 0\n  give 0\n", 4, "unknown line")
        self.assert_bad(head + "    give 0\nopen f\n", 4, "bad indent")
        self.assert_bad(head + "    give 0\n  else \n", 4, "unknown line")
        self.assert_bad(head + "    give 0\n  elsee\n", 4, "unknown line")
        self.assert_bad(head + "    give 0\n  else\n  give 0\n", 5, "bad indent")
        self.assert_bad(head + "    give 0\n  else\n    give 0\n  else\n", 6, "bad indent")
        self.assert_bad(head + "    give 0\n  else\n    give 0\n  give 0\n", 6, "bad indent")
        for text in ("if 0", "if 0 <= 0 <= 0", "if 0 = 0 = 0", "if 0 < 0", "if 0 >= 0", "if 0 == 0", "if 0 <= 0 = 0", "if", "if ",
                     "if r[0] = 0", "if 0=0", "if 0 <=0", "claim 0", "claim", "claim 0 = r[]"):
            self.assert_bad(with_body(text, "  give 0", "else", "  give 0"), 2, "unknown line")

    def test_lines_that_are_missing_at_the_end(self):
        lines = WHOLE.split("\n")[:-1]
        for many in range(len(lines)):
            text = "\n".join(lines[:many])
            if many in (0, 2, 19):
                with self.assertRaises(BadProgram):
                    read_program(text)
            elif many < 20:
                self.assert_bad(text, many + 1, "text ends")
                self.assert_bad(text + "\n", many + 1, "text ends")
        self.assert_bad("fun f", 2, "text ends")
        self.assert_bad("fun f\n  if 0 = 0\n    give 0", 4, "text ends")
        self.assert_bad("fun f\n  if 0 = 0\n    give 0\n  else", 5, "text ends")
        # A wrong line is told ahead of what is missing behind it.
        self.assert_bad("fun f\n  if 0 = 0\n    giv", 3, "unknown line")

    def test_the_first_wrong_line(self):
        self.assert_bad("fun f\n  give\nfun\n open\n", 2, "unknown line")
        self.assert_bad("fun f\n  give 0\n fun\nopen f: 0\n", 3, "bad indent")
        self.assert_bad("fun f\n  give 0\nopen f: 0\nopen g\n give", 3, "bad promise")
        # Ahead of whether the program is one.
        self.assert_bad("fun f\n  give x\nopen f\nopen g\n", 4, "unknown line")
        self.assert_bad("fun f x x\n  give 0\nfun f\n  give y\nopen f: x\n", 5, "bad promise")
        self.assert_bad("  give\n", 1, "bad indent")
        self.assert_bad(" open f: 0\n", 1, "bad indent")


class Opens(Asks):
    HEAD = "fun f x r[] y\n  give 0\n"

    def test_promises(self):
        for text, quality in (("0 <= x", (0, 1, 0)), ("x <= len r - 1", (1, 2, -1)), ("len r <= 0 + 999999999", (2, 0, 999999999)),
                              ("y <= x", (3, 1, 0))):
            self.assertEqual(read_program(self.HEAD + "open f: " + text)[2], (("f", (quality,)),))
            told = read_program(self.HEAD + f"open f: 0 <= y, {text}, {text}")[2]
            self.assertEqual(told, (("f", ((0, 3, 0), quality, quality)),))

    def test_bad_promises(self):
        for text in ("x <= x", "0 <= 0", "len r <= len r", "x <= x + 1", "z <= x", "x <= z", "len x <= y", "r <= x", "x <= len y",
                     "x <= len z", "x <= 5", "5 <= x", "x + 1 <= y", "x <= y + 0", "x <= y + 01", "x <= y + -1", "x <= y - 0",
                     "x <= y + 1000000000", "x <= y+1", "x<=y", "x <= y ", " x <= y", "x  <= y", "x <= y + 1 + 1", "x = y", "x < y",
                     "x <= y <= x", "x", "", " ", ",", "x <=", "<= x", "x <= ", "x <= r[]", "x <= result", "x <= any", "x <= y,",
                     "x <= y,y <= x", "x <= y ,y <= x", "x <= y;", "X <= y", "0 + 1 <= x", "x <= y:", ": x <= y", "-0 <= x"):
            self.assert_bad(self.HEAD + "open f: " + text, 3, "bad promise")
            if "," not in text:
                self.assert_bad(self.HEAD + f"open f: 0 <= x, {text}", 3, "bad promise")
                self.assert_bad(self.HEAD + f"open f: {text}, 0 <= x", 3, "bad promise")
        self.assert_bad(self.HEAD + "open f: 0 <= x,  x <= y", 3, "bad promise")
        self.assert_bad(self.HEAD + "open f: 0 <= x, , x <= y", 3, "bad promise")

    def test_what_stands_ahead_of_the_first_colon(self):
        for text in ("open f:", "open f:0 <= x", "open f :", "open f : 0 <= x", "open  f: 0 <= x", "open f 0 <= x", "openf: 0 <= x",
                     "open: 0 <= x", "open : 0 <= x", ": 0 <= x", ": ", "open g: 0 <= x", "open f x: 0 <= x", "opens f: 0 <= x",
                     "open f[]: 0 <= x", "open", "open ", "open f, f", "Open f", "open len", "close f"):
            self.assert_bad(self.HEAD + text, 3, "unknown line")
        # Only the first one parts the line.
        self.assert_bad(self.HEAD + "open f: 0 <= x: 0 <= y", 3, "bad promise")
        self.assert_bad(self.HEAD + "open f: open f: 0 <= x", 3, "bad promise")

    def test_an_unknown_function_and_bad_promises(self):
        self.assert_bad(self.HEAD + "open g: x <= x", 3, "unknown line")
        self.assert_bad(self.HEAD + "open f\nopen g: x <= x", 4, "unknown line")

    def test_an_open_ahead_of_its_function(self):
        self.assert_bad("open f\n" + self.HEAD, 1, "unknown line")
        self.assert_bad(self.HEAD + "open g\nfun g\n  give 0\n", 3, "unknown line")

    def test_no_function_behind_an_open(self):
        self.assert_bad(self.HEAD + "open f\nfun g\n  give 0\n", 4, "unknown line")

    def test_an_open_twice(self):
        self.assert_no_program(self.HEAD + "open f\nopen f: 0 <= x\n", 1, "bad open")

    def test_the_last_function_of_a_name(self):
        first, last = "fun f x\n  give 0\n", "fun f r[] x\n  give 0\n"
        self.assert_no_program(first + last + "open f: 0 <= len r\n", 1, "name twice")
        self.assert_bad(last + first + "open f: 0 <= len r\n", 5, "bad promise")
        self.assert_no_program(last + first + "open f: 0 <= x\n", 1, "name twice")
        self.assert_bad(first + last + first + "open f: 0 <= len r\n", 7, "bad promise")


class NoProgram(Asks):
    """Texts that read well and are no program."""

    def test_the_whole(self):
        nine = "".join(f"fun {word}\n  give 0\n" for word in "abcdefghi")
        self.assert_no_program(nine + "open a\n", -1, "not a program")
        self.assert_no_program("fun f\n  give 0\n", -1, "not a program")
        eight = nine[:-len("fun i\n  give 0\n")]
        self.assertEqual(len(read_program(eight + "open h\n")[1]), 8)
        self.assertEqual(len(read_program(eight + "".join(f"open {word}\n" for word in "abcdefgh"))[2]), 8)
        self.assert_no_program(eight + "".join(f"open {word}\n" for word in "abcdefgha"), -1, "not a program")

    def test_functions(self):
        self.assert_no_program("fun f x y z u v w\n  give 0\nopen f\n", 0, "bad function")
        self.assertEqual(len(read_program("fun f x y z u v\n  give 0\nopen f\n")[1][0][2]), 5)
        self.assert_no_program("fun g\n  give 0\nfun f x x\n  give 0\nopen f\n", 1, "bad function")
        self.assert_no_program("fun f x x[]\n  give 0\nopen f\n", 0, "bad function")
        self.assert_no_program("fun f\n  give 0\nfun f x\n  give 0\nopen f\n", 1, "name twice")

    def test_bodies(self):
        for line, reason in (
            ("give y", "unknown name"), ("give r", "unknown name"), ("give len x", "unknown name"), ("give len y", "unknown name"),
        ):
            self.assert_no_program(with_body(line), 0, reason)
        for line, reason in (
            ("let u = x[0]", "unknown name"), ("y[0] = 0", "unknown name"), ("r[y] = 0", "unknown name"),
            ("let u = g(x, r[])", "unknown function"), ("let u = f(x)", "wrong arguments"), ("let u = f(x, x)", "wrong arguments"),
            ("let u = f(r[], x)", "wrong arguments"), ("let u = f()", "wrong arguments"), ("let u = f(y, r[])", "unknown name"),
            ("let u = f(x, s[])", "unknown name"), ("let r = 0", "name is an array"), ("let u = u", "unknown name"),
            ("claim x <= y", "unknown name"),
        ):
            self.assert_no_program(with_body(line, "give 0"), 0, reason)

    def test_deep_and_great_bodies(self):
        self.assert_no_program(with_body(*["claim 0 = 0"] * 60, "give 0"), 0, "bad body")
        self.assertEqual(read_program(with_body(*["claim 0 = 0"] * 59, "give 0"))[1][0][3][0], "claim")
        self.assert_no_program(with_body(*["r[0] = 0"] * 1500, "give 0"), 0, "bad body")
        lines = []
        for depth in range(60):
            lines.extend(["  " * depth + "if 0 = 0", "  " * depth + "  give 0", "  " * depth + "else"])
        self.assert_no_program(with_body(*lines, "  " * 60 + "give 0"), 0, "bad body")

    def test_paths(self):
        def ifs(many):
            return ("if", MOST, ("give", X), ifs(many - 1)) if many else GIVE

        row = ifs(50)
        for many, reason in ((200, None), (201, "too many paths")):
            program = program_of(("if", MOST, ("if", MOST, row, row), ("if", MOST, row, ifs(many - 154))))
            if reason is None:
                self.assertEqual(read_program(format_program(program)), program)
            else:
                self.assert_no_program(format_program(program), 0, reason)


class Chance(Asks):
    SIGNS = (*" \n=<[]():,+-0129abfgux", "\n  ", "\n    ", " = ", " <= ", "[]", "give ", "let ", "if ", "else", "never", "claim ",
             "fun ", "open ", "any", "len ", "middle(", "\t", "\u00e9", "\x00", "\r\n")

    def assert_told(self, text):
        lines = len(text.split("\n"))
        try:
            check_program(read_program(text))
        except BadText as error:
            self.assertIn(error.reason, ("bad indent", "unknown line", "bad promise", "text ends"))
            self.assertIn(error.line, range(1, lines + 2))
        except BadProgram as error:
            self.assertIn(error.reason, (
                "not a program", "bad function", "name twice", "bad body", "unknown name", "unknown function", "wrong arguments",
                "name is an array", "too many paths", "bad open",
            ))

    def test_signs_by_chance(self):
        chance = Maker(0).chance
        for many in range(400):
            text = "".join(chance.choice(self.SIGNS) for _ in range(many % 60))
            self.assert_told(text)
            self.assert_told("fun f x r[]\n  " + text)

    def test_texts_with_some_signs_changed(self):
        for seed in range(300):
            maker = Maker(seed)
            text = format_program(maker.program(depth=4))
            for _ in range(4):
                other = text
                for _ in range(maker.chance.randint(1, 3)):
                    at = maker.chance.randrange(len(other) + 1)
                    skip = maker.chance.randint(0, 1)
                    other = other[:at] + maker.chance.choice(("", *self.SIGNS)) + other[at + skip:]
                if "\r" not in other and "\x00" not in other:
                    Read.assert_read_as(self, other)
                self.assert_told(other)

    def test_lines_changed_about(self):
        for seed in range(200):
            maker = Maker(seed)
            lines = format_program(maker.program(depth=5)).split("\n")
            for _ in range(4):
                other = list(lines)
                at, to = maker.chance.randrange(len(lines)), maker.chance.randrange(len(lines))
                maker.chance.choice((lambda: other.insert(to, other[at]), lambda: other.pop(at),
                                     lambda: other.insert(to, other.pop(at))))()
                Read.assert_read_as(self, "\n".join(other))

    def test_long_texts(self):
        self.assert_told("fun f\n" + "  let x = 0\n" * 1600)
        self.assert_told("\n" * 20000)
        self.assert_told(" " * 20000)
        self.assert_told("fun f\n  give " + "x" * 20000)
        self.assert_told("fun f\n  give 0\nopen f: " + "0 <= x, " * 2000)
        self.assert_told("fun f\n  let x = f(" + "0, " * 6000 + "0)\n  give 0\nopen f\n")
        deep = "".join("  " * depth + "if 0 = 0\n" for depth in range(1, 130))
        self.assert_told("fun f\n" + deep)


class Stays(Unchanged):
    def test_nothing_is_changed_and_the_answers_stay(self):
        self.assert_unchanged(((format_program, [PARTS]), (read_program, [WHOLE])), (tuple, str))


if __name__ == "__main__":
    unittest.main()
