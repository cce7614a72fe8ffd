"""p1 to p4 and u1: what is a program, and the first reason why a thing is none."""

import copy
import random
import unittest

from claimfall.errors import BadProgram
from claimfall.programs import check_program, index_of
from tests.samples import DEEP, EXAMPLE, FIRST, GIVE, JUNK, MOST, SAME, WALK, ZERO
from tests.samples import block, claims, fun, most_ways, name, program_of, same_ways

HUGE = 10 ** 5000
RIGHT = fun("right", (("x", "int"), ("r", "array")), GIVE)


def fault(program):
    """What check_program says: None, or the function and the reason."""
    try:
        return check_program(program)
    except BadProgram as error:
        return error.function, error.reason


def functions_of(*functions):
    return ("program", functions, ((functions[0][1], ()),))


def named(at):
    return fun("abcdefghi"[at], (), GIVE)


class Checks(unittest.TestCase):
    def assert_right(self, program):
        self.assertIsNone(fault(program))

    def assert_fault(self, program, function, reason):
        told = fault(program)
        self.assertEqual(told, (function, reason))
        self.assertIs(type(told[0]), int)

    def assert_right_body(self, body):
        self.assert_right(program_of(body))

    def assert_body_fault(self, body, reason):
        """The fault of a body in the first, a middle and the last function, and in each part of a body."""
        for at in range(3):
            bodies = [GIVE, GIVE, GIVE]
            bodies[at] = body
            self.assert_fault(program_of(*bodies), at, reason)
        for around in (
            ("claim", MOST, body),
            ("put", "r", ZERO, ZERO, body),
            ("let", "y", ZERO, body),
            ("if", MOST, body, GIVE),
            ("if", SAME, GIVE, body),
            ("if", MOST, ("claim", MOST, GIVE), ("if", MOST, ("let", "y", ("any",), body), GIVE)),
        ):
            self.assert_fault(program_of(GIVE, around), 1, reason)


class Whole(Checks):
    def test_the_example(self):
        self.assert_right(EXAMPLE)
        self.assertIsNone(check_program(EXAMPLE))

    def test_no_program(self):
        _, functions, opens = EXAMPLE
        wrong = (
            *JUNK, DEEP, [DEEP], (DEEP, DEEP, DEEP), ("program", DEEP, [DEEP]), list(EXAMPLE),
            ("program",), ("program", functions), ("program", functions, opens, ()), ("programs", functions, opens),
            (["program"], functions, opens), ("program", list(functions), opens), ("program", functions, list(opens)),
            ("program", functions, None), ("program", None, opens), ("program", "ab", opens),
            ("program", functions, "ab"), ("program", True, opens), ("program", functions, 1),
            (functions, opens, "program"),
        )
        for at, thing in enumerate(wrong):
            with self.subTest(at):
                self.assert_fault(thing, -1, "not a program")

    def test_how_many_functions(self):
        opens = (("a", ()),)
        self.assert_fault(("program", (), opens), -1, "not a program")
        for many in (1, 2, 8):
            self.assert_right(("program", tuple([named(at) for at in range(many)]), opens))
        self.assert_fault(("program", tuple([named(at) for at in range(9)]), opens), -1, "not a program")
        self.assert_fault(("program", (None,) * 9, opens), -1, "not a program")

    def test_how_many_opens(self):
        functions = tuple([named(at) for at in range(8)])
        opens = tuple([(function[1], ()) for function in functions])
        self.assert_fault(("program", functions, ()), -1, "not a program")
        for many in (1, 2, 8):
            self.assert_right(("program", functions, opens[:many]))
        self.assert_fault(("program", functions, (*opens, ("i", ()))), -1, "not a program")
        self.assert_fault(("program", functions, (None,) * 9), -1, "not a program")

    def test_ahead_of_all_else(self):
        self.assert_fault(("program", (None,), ()), -1, "not a program")


class Heads(Checks):
    def assert_bad_head(self, function):
        right = [named(1), named(2), named(3)]
        for at in range(3):
            functions = tuple([*right[:at], function, *right[at:]])
            self.assert_fault(("program", functions, (("b", ()),)), at, "bad function")

    def test_shape(self):
        wrong = (
            *JUNK, list(RIGHT), RIGHT[:3], (*RIGHT, GIVE), ("function", *RIGHT[1:]), (["fun"], *RIGHT[1:]),
            (None, *RIGHT[1:]), DEEP, (DEEP, "f", (), GIVE), ("fun", DEEP, (), GIVE), ("fun", "f", DEEP, GIVE),
        )
        for at, function in enumerate(wrong):
            with self.subTest(at):
                self.assert_bad_head(function)

    def test_names(self):
        for word in ("a", "z", "abcdefgh", "fun", "open", "give"):
            self.assert_right(functions_of(fun(word, (), GIVE)))
        wrong = ("", "abcdefghi", "A", "aB", "a1", "a b", "_", "a_", " a", "a\n", "\u00e4", "\u0430", "`", "{")
        for word in (*wrong, None, True, 1, ("a",), ["a"], ()):
            with self.subTest(word):
                self.assert_bad_head(fun(word, (), GIVE))

    def test_params(self):
        five = tuple([(word, "int") for word in "abcde"])
        for params in ((), five[:1], five, (("abcdefgh", "array"),), (("f", "int"), ("g", "array"))):
            self.assert_right(functions_of(fun("f", params, GIVE)))
        six = (*five, ("f", "int"))
        junk = [thing for thing in JUNK if thing != ()]
        wrong = (
            *junk, "ab", list(five), [], six, (("a", "int"), ("b", "int"), ("a", "int")),
            (("a", "int"), ("a", "array")), ((),), ("a",), (["a", "int"],), (("a",),),
            (("a", "int", 0),), (("a", "list"),),
            (("a", None),), (("a", True),), (("a", ["int"]),), (("", "int"),), (("abcdefghi", "int"),), (("A", "int"),),
            ((1, "int"),), ((("a",), "int"),), (("a", "int"), None), (None, ("a", "int")), (("int", "a"),),
        )
        for params in wrong:
            with self.subTest(params):
                self.assert_bad_head(fun("f", params, GIVE))

    def test_name_twice(self):
        a, b, c = named(0), named(1), named(2)
        opens = (("b", ()),)
        self.assert_fault(("program", (a, a, b), opens), 1, "name twice")
        self.assert_fault(("program", (a, b, fun("a", (("x", "int"),), GIVE)), opens), 2, "name twice")
        self.assert_fault(("program", (b, a, c, a, a), opens), 3, "name twice")
        self.assert_right(("program", (a, b, c), opens))

    def test_in_one_go(self):
        a, b = named(0), named(1)
        opens = (("a", ()),)
        self.assert_fault(("program", (a, a, None), opens), 1, "name twice")
        self.assert_fault(("program", (a, None, a), opens), 1, "bad function")
        self.assert_fault(("program", (a, ("fun", "a", None, GIVE), b), opens), 1, "bad function")
        self.assert_fault(("program", (None, a, a), opens), 0, "bad function")

    def test_ahead_of_all_bodies(self):
        bad = fun("a", (), None)
        self.assert_fault(functions_of(bad, fun("b", (), GIVE), fun("A", (), GIVE)), 2, "bad function")
        self.assert_fault(functions_of(bad, fun("b", (), GIVE), fun("b", (), GIVE)), 2, "name twice")


class BodyShapes(Checks):
    def test_right_ones(self):
        right = (
            ("give", ("num", -HUGE)), ("give", name("x", HUGE)), ("give", ("len", "r", -1)), ("never",),
            ("let", "y", ("num", 1), GIVE), ("let", "y", name("x"), GIVE), ("let", "y", ("len", "r", 0), GIVE),
            ("let", "y", ("at", "r", name("x")), GIVE), ("let", "y", ("any",), GIVE),
            ("let", "y", ("middle", ZERO, name("x")), GIVE),
            ("let", "y", ("call", "a", (name("x", 1), ("array", "r"))), ("give", name("y"))),
            ("if", ("most", name("x"), ZERO), GIVE, ("never",)), ("if", ("same", name("x"), ZERO), GIVE, GIVE),
            ("claim", ("most", ZERO, ZERO), GIVE), ("claim", ("same", ZERO, ZERO), GIVE),
            ("put", "r", name("x"), ("len", "r", 2), GIVE),
        )
        for body in right:
            with self.subTest(body[:2]):
                self.assert_right_body(body)

    def test_things_that_are_no_bodies(self):
        junk = [thing for thing in JUNK if thing != ("give", ZERO)]
        wrong = (*junk, DEEP, (DEEP,), ("give", DEEP), ("let", "y", DEEP, GIVE), ("if", DEEP, GIVE, GIVE))
        for at, body in enumerate(wrong):
            with self.subTest(at):
                self.assert_body_fault(body, "bad body")

    def test_words_and_lengths(self):
        right = (
            GIVE, ("never",), ("let", "y", ZERO, GIVE), ("if", MOST, GIVE, GIVE), ("claim", MOST, GIVE),
            ("put", "r", ZERO, ZERO, GIVE),
        )
        for body in right:
            for wrong in (body[:-1], (*body, GIVE), list(body), (body[0].upper(), *body[1:]), ("num", *body[1:])):
                with self.subTest(wrong):
                    self.assert_body_fault(wrong, "bad body")
        for word in ("num", "name", "len", "array", "most", "same", "at", "call", "any", "middle", "fun", "stop"):
            with self.subTest(word):
                self.assert_body_fault((word,), "bad body")
                self.assert_body_fault((word, ZERO), "bad body")

    TERMS = (
        *JUNK, ("num",), ("num", 0, 0), ("num", True), ("num", "0"), ("num", None), ("num", (0,)), ["num", 0],
        ("name", "x"), ("name", "x", 0, 0), ("name", "x", False), ("name", 0, "x"), ("name", "", 0), ("name", "X", 0),
        ("name", "abcdefghi", 0), ("name", ["x"], 0), ("name", "x", [0]), ("len", "r"), ("len", "r", True),
        ("len", "r", 0, 0), ("len", "R", 0), ("len", None, 0), ("array", "r"), ("any",), ("at", "r", ZERO),
        ("middle", ZERO, ZERO), ("most", ZERO, ZERO), 0, "x", ("same", 0),
    )

    def test_terms(self):
        for term in self.TERMS:
            for body in (
                ("give", term), ("put", "r", term, ZERO, GIVE), ("put", "r", ZERO, term, GIVE),
                ("claim", ("most", term, ZERO), GIVE), ("if", ("same", ZERO, term), GIVE, GIVE),
                ("let", "y", ("at", "r", term), GIVE), ("let", "y", ("middle", term, ZERO), GIVE),
                ("let", "y", ("middle", ZERO, term), GIVE),
            ):
                with self.subTest(body):
                    self.assert_fault(program_of(body), 0, "bad body")

    def test_values(self):
        for value in (
            *JUNK, ("num", False), ("name", "X", 0), ("array", "r"), ("any", ZERO), ["any"], ("at", "r"),
            ("at", "R", ZERO),
            ("at", ZERO, "r"), ("at", "r", ZERO, ZERO), ("at", True, ZERO), ("middle", ZERO),
            ("middle", ZERO, ZERO, ZERO),
            ("call", "a"), ("call", "a", (), ()), ("call", "A", ()), ("call", 0, ()), ("call", "abcdefghi", ()),
            ("call", "a", []), ("call", "a", None), ("call", "a", "x"), ("call", "a", ("x",)), ("call", "a", (0,)),
            ("call", "a", (["num", 0], ("array", "r"))), ("call", "a", (ZERO, ("array",))), ("most", ZERO, ZERO),
            ("call", "a", (ZERO, ("array", "R"))), ("call", "a", (ZERO, ("array", "r", 0))),
            ("call", "a", (ZERO, ("any",))),
            ("call", "a", (("num", True), ("array", "r"))), ("call", "nobody", (GIVE,)), GIVE, ("give", ZERO),
        ):
            with self.subTest(value):
                self.assert_body_fault(("let", "y", value, GIVE), "bad body")

    def test_conditions(self):
        for condition in (
            *JUNK, ("most", ZERO), ("most", ZERO, ZERO, ZERO), ["most", ZERO, ZERO],
            ("less", ZERO, ZERO), ZERO, ("any",),
            ("same", ZERO), (None, ZERO, ZERO), (["most"], ZERO, ZERO),
        ):
            with self.subTest(condition):
                self.assert_body_fault(("if", condition, GIVE, GIVE), "bad body")
                self.assert_body_fault(("claim", condition, GIVE), "bad body")

    def test_names(self):
        for word in ("y", "abcdefgh"):
            self.assert_right_body(("let", word, ZERO, ("give", name(word))))
        for word in ("", "abcdefghi", "Y", "y1", "\u00e4", None, 1, True, ("y",), ["y"], ()):
            with self.subTest(word):
                self.assert_body_fault(("let", word, ZERO, GIVE), "bad body")
                self.assert_body_fault(("put", word, ZERO, ZERO, GIVE), "bad body")


class BodySizes(Checks):
    def test_how_deep(self):
        self.assert_right_body(claims(59))
        self.assert_fault(program_of(GIVE, claims(60)), 1, "bad body")
        self.assert_fault(program_of(claims(60, None)), 0, "bad body")
        for around in (
            lambda body: ("let", "y", ZERO, body),
            lambda body: ("put", "r", ZERO, ZERO, body),
            lambda body: ("if", MOST, body, GIVE),
            lambda body: ("if", MOST, GIVE, body),
        ):
            self.assert_right_body(around(claims(58)))
            self.assert_fault(program_of(around(claims(59))), 0, "bad body")

    def test_a_depth_ends_the_walk(self):
        self.assert_fault(program_of(claims(100000)), 0, "bad body")
        self.assert_fault(program_of(claims(58, ("claim", MOST, ("give", name("y"))))), 0, "unknown name")
        self.assert_fault(program_of(claims(59, ("claim", MOST, ("give", name("y"))))), 0, "bad body")
        self.assert_fault(program_of(("if", MOST, claims(60), ("give", name("y")))), 0, "bad body")
        self.assert_fault(program_of(("if", MOST, ("give", name("y")), claims(60))), 0, "unknown name")

    def test_how_many_bodies(self):
        self.assert_right_body(block(2000))
        self.assert_right(program_of(block(2000), block(2000), block(2000)))
        self.assert_fault(program_of(block(2001)), 0, "bad body")
        self.assert_fault(program_of(block(2000), block(2001)), 1, "bad body")

    def test_a_body_at_two_places_is_two(self):
        half = block(999)
        self.assert_right_body(("if", MOST, half, half))
        self.assert_right_body(("claim", MOST, ("if", MOST, half, half)))
        self.assert_fault(program_of(claims(2, ("if", MOST, half, half))), 0, "bad body")
        many = GIVE
        for _ in range(59):
            many = ("if", MOST, many, many)
        self.assert_fault(program_of(many), 0, "bad body")

    def test_the_2001st_on_this_walk(self):
        wrong = ("give", name("y"))
        self.assert_fault(program_of(("if", MOST, block(1998), wrong)), 0, "unknown name")
        self.assert_fault(program_of(("if", MOST, block(1999), wrong)), 0, "bad body")
        self.assert_fault(program_of(("if", MOST, wrong, block(1999))), 0, "unknown name")
        self.assert_fault(program_of(("if", MOST, block(1000), ("if", MOST, wrong, block(1000)))), 0, "unknown name")

    def test_how_many_paths_with_most(self):
        self.assert_right_body(most_ways(200))
        self.assert_fault(program_of(most_ways(201)), 0, "too many paths")
        self.assert_fault(program_of(GIVE, most_ways(201), GIVE), 1, "too many paths")

    def test_how_many_paths_with_same(self):
        self.assert_right_body(same_ways(200))
        self.assert_fault(program_of(same_ways(201)), 0, "too many paths")
        self.assert_right_body(("if", SAME, most_ways(100), most_ways(50)))
        self.assert_right_body(("if", SAME, most_ways(198), GIVE))
        self.assert_fault(program_of(("if", SAME, most_ways(199), GIVE)), 0, "too many paths")
        self.assert_fault(program_of(("if", SAME, GIVE, most_ways(100))), 0, "too many paths")

    def test_the_second_body_twice_and_twice(self):
        body = GIVE
        for _ in range(6):
            body = ("if", SAME, GIVE, body)
        self.assert_right_body(body)
        self.assert_fault(program_of(("if", SAME, GIVE, body)), 0, "too many paths")

    def test_never_ends_a_path_too(self):
        def tree(many):
            return ("if", MOST, tree(many // 2), tree(many - many // 2)) if many > 1 else ("never",)

        self.assert_right_body(tree(200))
        self.assert_fault(program_of(tree(201)), 0, "too many paths")

    def test_other_bodies_make_no_paths(self):
        around = (("claim", MOST), ("put", "r", ZERO, ZERO), ("let", "y", ("any",)))
        body = most_ways(200)
        for part in around * 3:
            body = (*part, body)
        self.assert_right_body(body)

    def test_paths_are_looked_at_behind_the_body(self):
        wrong = ("if", MOST, most_ways(201), ("give", name("y")))
        self.assert_fault(program_of(wrong), 0, "unknown name")
        self.assert_fault(program_of(("if", MOST, most_ways(300), block(1999))), 0, "bad body")

    def test_paths_are_looked_at_ahead_of_the_next_function(self):
        self.assert_fault(program_of(most_ways(201), None), 0, "too many paths")
        self.assert_fault(program_of(None, most_ways(201)), 0, "bad body")


class Names(Checks):
    def test_unknown_integers(self):
        for term in (name("q"), name("a"), name("r"), ("len", "x", 0), ("len", "s", 0)):
            for body in (
                ("give", term), ("let", "z", term, GIVE), ("let", "z", ("at", "r", term), GIVE),
                ("let", "z", ("middle", term, ZERO), GIVE), ("let", "z", ("middle", ZERO, term), GIVE),
                ("let", "z", ("call", "a", (term, ("array", "r"))), GIVE), ("claim", ("most", term, ZERO), GIVE),
                ("claim", ("same", ZERO, term), GIVE), ("if", ("most", ZERO, term), GIVE, GIVE),
                ("put", "r", term, ZERO, GIVE), ("put", "r", ZERO, term, GIVE),
            ):
                with self.subTest(body):
                    self.assert_body_fault(body, "unknown name")

    def test_unknown_arrays(self):
        for word in ("x", "s", "a"):
            self.assert_body_fault(("put", word, ZERO, ZERO, GIVE), "unknown name")
            self.assert_body_fault(("let", "z", ("at", word, ZERO), GIVE), "unknown name")
            self.assert_body_fault(("let", "z", ("call", "a", (ZERO, ("array", word))), GIVE), "unknown name")

    def test_a_name_of_let_is_known_in_its_body_alone(self):
        use = ("give", name("y"))
        self.assert_right_body(("let", "y", ZERO, use))
        self.assert_right_body(("let", "y", ZERO, ("if", MOST, use, claims(2, use))))
        self.assert_fault(program_of(("let", "y", name("y"), use)), 0, "unknown name")
        self.assert_fault(program_of(("if", MOST, ("let", "y", ZERO, use), use)), 0, "unknown name")
        self.assert_fault(program_of(("let", "y", ZERO, use), use), 1, "unknown name")
        self.assert_fault(program_of(("let", "y", ZERO, ("give", ("len", "y", 0)))), 0, "unknown name")

    def test_params_are_known_in_their_function_alone(self):
        one, two = fun("f", (("x", "int"),), ("give", name("x"))), fun("g", (("y", "int"),), ("give", name("x")))
        self.assert_fault(functions_of(one, two), 1, "unknown name")
        self.assert_fault(functions_of(two, one), 0, "unknown name")

    def test_a_name_given_anew(self):
        use = ("give", name("y", 1))
        self.assert_right_body(("let", "y", ZERO, ("let", "y", name("y", 1), use)))
        self.assert_right_body(("let", "x", name("x", 1), ("let", "x", ("at", "r", name("x")), ("give", name("x")))))

    def test_names_of_functions_may_be_names_of_integers(self):
        self.assert_right(functions_of(fun("f", (("f", "int"),), ("let", "f", ("call", "f", (name("f"),)), GIVE))))

    def test_the_name_of_an_array(self):
        self.assert_body_fault(("let", "r", ZERO, GIVE), "name is an array")
        self.assert_body_fault(("let", "r", ("any",), GIVE), "name is an array")
        self.assert_body_fault(("let", "r", ("at", "r", ZERO), GIVE), "name is an array")
        self.assert_right(functions_of(named(0), fun("f", (("s", "array"),), ("let", "r", ZERO, GIVE))))

    def test_the_name_of_an_array_comes_last(self):
        arguments = (ZERO, ("array", "r"))
        for value, reason in (
            (name("q"), "unknown name"),
            (("at", "x", ZERO), "unknown name"),
            (("call", "nobody", arguments), "unknown function"),
            (("call", "a", ()), "wrong arguments"),
            (("call", "a", (name("q"), ("array", "r"))), "unknown name"),
            (("call", "a", arguments), "name is an array"),
            (("call", "A", arguments), "bad body"),
        ):
            with self.subTest(value):
                self.assert_body_fault(("let", "r", value, GIVE), reason)

    def test_ahead_of_what_stands_further_in(self):
        self.assert_fault(program_of(("let", "r", ZERO, None)), 0, "name is an array")
        self.assert_fault(program_of(("let", "y", name("q"), None)), 0, "unknown name")
        self.assert_fault(program_of(("claim", ("most", ZERO, name("q")), None)), 0, "unknown name")
        self.assert_fault(program_of(("put", "x", ZERO, ZERO, None)), 0, "unknown name")
        self.assert_fault(program_of(("let", "y", ("call", "nobody", ()), None)), 0, "unknown function")


class Calls(Checks):
    def call(self, word, *arguments):
        return ("let", "y", ("call", word, arguments), ("give", name("y")))

    def test_right_ones(self):
        for at in range(3):
            bodies = [GIVE, GIVE, GIVE]
            for word in "abc":
                bodies[at] = self.call(word, ("len", "r", 5), ("array", "r"))
                self.assert_right(program_of(*bodies))
        self.assert_right(functions_of(fun("f", (), self.call("f"))))

    def test_unknown_function(self):
        for word in ("d", "x", "r", "y", "abcdefgh"):
            self.assert_body_fault(self.call(word, ZERO, ("array", "r")), "unknown function")
        self.assert_body_fault(self.call("nobody"), "unknown function")

    def test_wrong_arguments(self):
        array = ("array", "r")
        for arguments in (
            (), (ZERO,), (array,), (ZERO, array, ZERO), (ZERO, array, array), (array, ZERO),
            (array, array), (ZERO, ZERO),
            (name("x"), name("r")), (("array", "x"), array), (ZERO, ("len", "r", 0)), (name("q"), name("q")),
        ):
            with self.subTest(arguments):
                self.assert_body_fault(self.call("a", *arguments), "wrong arguments")

    def test_the_order_at_a_call(self):
        self.assert_body_fault(self.call("nobody", name("q")), "unknown function")
        self.assert_body_fault(self.call("a", name("q")), "wrong arguments")
        self.assert_body_fault(self.call("a", name("q"), ("array", "r")), "unknown name")
        self.assert_body_fault(self.call("a", name("x"), ("array", "q")), "unknown name")
        self.assert_body_fault(self.call("a", name("x"), ("array", "x")), "unknown name")
        self.assert_body_fault(self.call("nobody", ("num", True)), "bad body")

    def test_params_of_the_called_function(self):
        one = fun("f", (("s", "array"), ("t", "array"), ("n", "int")), GIVE)
        right = fun("g", (("r", "array"),), self.call("f", ("array", "r"), ("array", "r"), ZERO))
        wrong = fun("g", (("r", "array"),), self.call("f", ("array", "r"), ZERO, ("array", "r")))
        self.assert_right(functions_of(one, right))
        self.assert_right(functions_of(right, one))
        self.assert_fault(functions_of(one, wrong), 1, "wrong arguments")
        self.assert_fault(functions_of(wrong, one), 0, "wrong arguments")


class Opens(Checks):
    FUNCTIONS = (
        fun("f", (("x", "int"), ("r", "array")), GIVE), fun("g", (), GIVE), fun("h", (("x", "int"),), GIVE),
        fun("k", (("x", "int"),), GIVE),
    )

    def assert_bad_open(self, pair):
        right = [("f", ()), ("k", ()), ("h", ())]
        for at in range(3):
            opens = tuple([*right[:at], pair, *right[at + 1:]])
            self.assert_fault(("program", self.FUNCTIONS, opens), at, "bad open")

    def assert_promises(self, promises):
        self.assert_right(("program", self.FUNCTIONS, (("k", ()), ("f", promises), ("h", ()))))

    def test_right_ones(self):
        self.assert_right(("program", self.FUNCTIONS, (("h", ()), ("g", ()), ("f", ()))))
        for i in range(3):
            for j in range(3):
                if i != j:
                    self.assert_promises(((i, j, 0),))
        self.assert_promises(((1, 2, HUGE), (1, 2, -HUGE), (0, 1, 5), (0, 1, 5)))
        self.assert_promises(((0, 1, 0),) * 50)

    def test_shape(self):
        for at, pair in enumerate((
            *JUNK, ["g", ()], ("g",), ("g", (), ()), ("g", []), ("g", None), ("g", ""), ("g", "ab"),
            (("g",), ()), ((), "g"),
            (None, ()), (1, ()), (True, ()), (["g"], ()), DEEP, (DEEP, ()), ("g", DEEP),
        )):
            with self.subTest(at):
                self.assert_bad_open(pair)

    def test_a_function_that_is_not_there(self):
        for word in ("z", "", "x", "F", "ff"):
            self.assert_bad_open((word, ()))

    def test_one_that_was_opened_ahead(self):
        for opens, place in (
            ((("g", ()), ("g", ())), 1),
            ((("g", ()), ("f", ()), ("g", ())), 2),
            ((("f", ()), ("h", ()), ("f", ((1, 2, 0),)), ("h", ())), 2),
        ):
            self.assert_fault(("program", self.FUNCTIONS, opens), place, "bad open")

    def test_promises_that_are_none(self):
        right = (0, 1, 0)
        for bad in (
            *JUNK, [0, 1, 0], (0, 1), (0, 1, 0, 0), (0, 0, 0), (2, 2, 5), (0, 3, 0), (3, 0, 0), (-1, 0, 0), (0, -1, 0),
            (False, 1, 0), (0, True, 0), (0, 1, False), (0, 1, None), (0, 1, "0"), ("0", 1, 0),
            (0, (1,), 0), (0, 1, [0]),
        ):
            for promises in ((bad,), (bad, right, right), (right, bad, right), (right, right, bad)):
                with self.subTest(promises):
                    self.assert_fault(("program", self.FUNCTIONS, (("k", ()), ("f", promises))), 1, "bad open")

    def test_places_are_those_of_the_function(self):
        for word, most in (("f", 2), ("h", 1)):
            self.assert_right(("program", self.FUNCTIONS, ((word, ((most, 0, 0),)),)))
            self.assert_fault(("program", self.FUNCTIONS, ((word, ((most + 1, 0, 0),)),)), 0, "bad open")
        self.assert_fault(("program", self.FUNCTIONS, (("g", ((0, 1, 0),)),)), 0, "bad open")

    def test_one_by_one(self):
        self.assert_fault(("program", self.FUNCTIONS, (("g", ()), None, ("g", ()))), 1, "bad open")
        self.assert_fault(("program", self.FUNCTIONS, (("g", ()), ("g", ()), None)), 1, "bad open")

    def test_behind_all_functions(self):
        bad = (None,)
        self.assert_fault(("program", (named(0), None), bad), 1, "bad function")
        self.assert_fault(("program", (named(0), named(0)), bad), 1, "name twice")
        self.assert_fault(("program", (named(0), fun("b", (), None)), bad), 1, "bad body")
        self.assert_fault(("program", (named(0), fun("b", (), most_ways(201))), bad), 1, "too many paths")


class Order(Checks):
    def test_bodies_function_by_function(self):
        unknown = ("give", name("q"))
        self.assert_fault(program_of(GIVE, unknown, None), 1, "unknown name")
        self.assert_fault(program_of(GIVE, None, unknown), 1, "bad body")
        self.assert_fault(program_of(("if", MOST, GIVE, None), unknown), 0, "bad body")

    def test_from_the_outside_in(self):
        self.assert_fault(program_of(("if", ("most", ZERO, name("q")), None, None)), 0, "unknown name")
        self.assert_fault(program_of(("if", 5, ("give", name("q")), GIVE)), 0, "bad body")

    def test_the_first_body_ahead_of_the_second(self):
        unknown, called = ("give", name("q")), ("let", "y", ("call", "nobody", ()), GIVE)
        for one, two, reason in (
            (unknown, None, "unknown name"), (None, unknown, "bad body"), (called, unknown, "unknown function"),
            (unknown, called, "unknown name"), (claims(20, called), unknown, "unknown function"),
            (("if", MOST, GIVE, called), unknown, "unknown function"),
        ):
            with self.subTest(reason):
                self.assert_fault(program_of(("if", MOST, one, two)), 0, reason)
                self.assert_fault(program_of(("if", SAME, one, two)), 0, reason)


class Index(unittest.TestCase):
    def test_numbers(self):
        self.assertEqual(index_of(EXAMPLE, "f"), 0)
        self.assertEqual(index_of(EXAMPLE, "g"), 1)
        for word in ("a", "h", "", "ff", "G"):
            self.assertEqual(index_of(EXAMPLE, word), -1)
        program = ("program", tuple([named(at) for at in range(8)]), (("a", ()),))
        self.assertEqual([index_of(program, word) for word in "abcdefghi"], [*range(8), -1])


class Kept(Checks):
    def changed(self, thing, numbers):
        """The thing with something else at some place in it."""
        if not isinstance(thing, tuple) or not thing or numbers.random() < 0.1:
            parts = (*JUNK, "x", "r", "a", "call", ZERO, GIVE, MOST, WALK, FIRST, name("x"), [thing], (thing,))
            return numbers.choice(parts)
        at = numbers.randrange(len(thing))
        if numbers.random() < 0.05:
            return thing[:at] + thing[at + 1:]
        return (*thing[:at], self.changed(thing[at], numbers), *thing[at + 1:])

    def test_all_that_is_handed_in_is_let_or_refused_and_kept(self):
        numbers = random.Random(4)
        reasons = {}
        for _ in range(5000):
            program = self.changed(EXAMPLE, numbers)
            if numbers.random() < 0.3:
                program = self.changed(program, numbers)
            ahead = copy.deepcopy(program)
            told = fault(program)
            self.assertEqual(program, ahead)
            self.assertEqual(fault(program), told)
            reasons[told and told[1]] = True
        self.assertIn(None, reasons)
        self.assertGreater(len(reasons), 6)


if __name__ == "__main__":
    unittest.main()
