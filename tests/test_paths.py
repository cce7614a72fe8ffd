"""w1 to w3 and u1: the ways through a body, their items and their unknowns."""

import copy
import unittest

from claimfall.paths import paths, unknowns
from tests import naive
from tests.chance import Maker
from tests.samples import EXAMPLE, GIVE, MOST, ZERO, fun, most_ways, name, program_of, same_ways

X = name("x")
LENGTH = ("len", "r", 0)
HUGE = 10 ** 5000


class Asks(unittest.TestCase):
    """Asks for the paths of a function a of x (unknown 1) and the array r (its length is unknown 2)."""

    def assert_paths(self, body, *expected):
        program = program_of(body)
        self.assertEqual(paths(program, 0), tuple((("fact", 0, 2, 0), *items) for items, _ in expected))
        self.assertEqual([unknowns(program, 0, at) for at in range(len(expected))], [many for _, many in expected])

    def assert_items(self, body, *expected, many=3):
        """The items ahead of the give of the only path."""
        self.assert_paths(body, ((*expected, ("give", 0, 0)), many))


class Gives(Asks):
    def test_a_number(self):
        self.assert_paths(("give", ("num", -7)), ((("give", 0, -7),), 3))

    def test_an_integer(self):
        self.assert_paths(("give", name("x", 4)), ((("give", 1, 4),), 3))

    def test_a_length(self):
        self.assert_paths(("give", ("len", "r", -1)), ((("give", 2, -1),), 3))

    def test_never(self):
        self.assert_paths(("never",), ((("look", 0, 0, -1),), 3))

    def test_great_numbers(self):
        self.assert_paths(("give", name("x", HUGE)), ((("give", 1, HUGE),), 3))


class Heads(unittest.TestCase):
    def test_without_params(self):
        program = ("program", (fun("f", (), ("give", ("num", 3))),), (("f", ()),))
        self.assertEqual(paths(program, 0), ((("give", 0, 3),),))
        self.assertEqual(unknowns(program, 0, 0), 1)

    def test_the_length_of_each_array_first(self):
        params = (("r", "array"), ("x", "int"), ("s", "array"), ("t", "array"), ("y", "int"))
        body = ("claim", ("most", ("len", "t", 0), name("y")), ("give", ("len", "s", 2)))
        program = ("program", (fun("f", params, body),), (("f", ()),))
        items = (("fact", 0, 1, 0), ("fact", 0, 3, 0), ("fact", 0, 4, 0), ("look", 4, 5, 0), ("give", 3, 2))
        self.assertEqual(paths(program, 0), (items,))
        self.assertEqual(unknowns(program, 0, 0), 6)

    def test_each_function_by_its_number(self):
        program = program_of(("give", X), ("never",), ("give", LENGTH))
        self.assertEqual(paths(program, 0), ((("fact", 0, 2, 0), ("give", 1, 0)),))
        self.assertEqual(paths(program, 1), ((("fact", 0, 2, 0), ("look", 0, 0, -1)),))
        self.assertEqual(paths(program, 2), ((("fact", 0, 2, 0), ("give", 2, 0)),))


class Ifs(Asks):
    LESS, REST = ("give", ("num", 1)), ("give", ("num", 2))

    def test_most(self):
        # x + 1 <= len r - 2, or len r - 2 <= x.
        body = ("if", ("most", name("x", 1), ("len", "r", -2)), self.LESS, self.REST)
        self.assert_paths(
            body,
            ((("fact", 1, 2, -3), ("give", 0, 1)), 3),
            ((("fact", 2, 1, 2), ("give", 0, 2)), 3),
        )

    def test_same_has_three_ways(self):
        # x + 1 = len r - 2; x + 1 <= len r - 3; len r - 2 <= x.
        body = ("if", ("same", name("x", 1), ("len", "r", -2)), self.LESS, self.REST)
        self.assert_paths(
            body,
            ((("fact", 1, 2, -3), ("fact", 2, 1, 3), ("give", 0, 1)), 3),
            ((("fact", 1, 2, -4), ("give", 0, 2)), 3),
            ((("fact", 2, 1, 2), ("give", 0, 2)), 3),
        )

    def test_of_numbers(self):
        self.assert_paths(
            ("if", ("most", ("num", 5), ("num", 3)), self.LESS, self.REST),
            ((("fact", 0, 0, -2), ("give", 0, 1)), 3),
            ((("fact", 0, 0, 1), ("give", 0, 2)), 3),
        )

    def test_the_ways_of_the_first_body_stand_first(self):
        inner = ("if", ("same", X, ZERO), ("give", ("num", 1)), ("give", ("num", 2)))
        other = ("if", ("most", X, ZERO), ("give", ("num", 3)), ("give", ("num", 4)))
        gives = [1, 2, 2, 3, 4]
        for condition, expected in ((("most", LENGTH, ZERO), gives), (("same", LENGTH, ZERO), [1, 2, 2, 3, 4, 3, 4])):
            told = paths(program_of(("if", condition, inner, other)), 0)
            self.assertEqual([items[-1][2] for items in told], expected)
        told = paths(program_of(("if", ("same", LENGTH, ZERO), other, inner)), 0)
        self.assertEqual([items[-1][2] for items in told], [3, 4, 1, 2, 2, 1, 2, 2])
        # At "same" all ways with less stand ahead of all with greater.
        self.assertEqual([items[1] for items in told[2:]], [("fact", 2, 0, -1)] * 3 + [("fact", 0, 2, -1)] * 3)

    def test_what_comes_ahead_of_an_if_is_on_all_its_ways(self):
        body = ("claim", ("most", ZERO, X), ("if", ("most", X, LENGTH), self.LESS, self.REST))
        look = ("look", 0, 1, 0)
        self.assert_paths(
            body,
            ((look, ("fact", 1, 2, 0), ("give", 0, 1)), 3),
            ((look, ("fact", 2, 1, -1), ("give", 0, 2)), 3),
        )

    def test_each_way_counts_its_own_unknowns(self):
        drawn = ("let", "u", ("any",), ("let", "v", ("any",), ("give", name("v"))))
        self.assert_paths(
            ("if", MOST, drawn, ("let", "w", ("any",), ("give", name("w", 1)))),
            ((("fact", 0, 0, 1), ("give", 4, 0)), 5),
            ((("fact", 0, 0, -2), ("give", 3, 1)), 4),
        )

    def test_one_body_at_two_places(self):
        one = ("let", "u", ("at", "r", X), ("give", name("u")))
        looks = (("look", 0, 1, 0), ("look", 1, 2, -1))
        self.assert_paths(
            ("if", MOST, ("let", "w", ("any",), one), one),
            ((("fact", 0, 0, 1), *looks, ("give", 4, 0)), 5),
            ((("fact", 0, 0, -2), *looks, ("give", 3, 0)), 4),
        )

    def test_two_hundred_ways(self):
        for body in (most_ways(200), same_ways(200)):
            self.assertEqual(len(paths(program_of(body), 0)), 200)

    def test_sixty_bodies_within_one_another(self):
        body = GIVE
        for _ in range(59):
            body = ("let", "u", ("at", "r", X), body)
        (items,) = paths(program_of(body), 0)
        self.assertEqual(len(items), 1 + 2 * 59 + 1)
        self.assertEqual(unknowns(program_of(body), 0, 0), 3 + 59)


class Looks(Asks):
    def test_claims(self):
        self.assert_items(("claim", ("most", name("x", 2), ("len", "r", 5)), GIVE), ("look", 1, 2, 3))
        self.assert_items(("claim", ("most", X, ("num", 5)), GIVE), ("look", 1, 0, 5))

    def test_a_claim_of_same_is_two_looks(self):
        body = ("claim", ("same", name("x", 2), ("len", "r", 5)), GIVE)
        self.assert_items(body, ("look", 1, 2, 3), ("look", 2, 1, -3))

    def test_at(self):
        body = ("let", "u", ("at", "r", name("x", -1)), GIVE)
        self.assert_items(body, ("look", 0, 1, -1), ("look", 1, 2, 0), many=4)
        body = ("let", "u", ("at", "r", ("num", 3)), GIVE)
        self.assert_items(body, ("look", 0, 0, 3), ("look", 0, 2, -4), many=4)

    def test_put_looks_at_its_index_and_nothing_else(self):
        body = ("put", "r", name("x", 1), name("x", 100), GIVE)
        self.assert_items(body, ("look", 0, 1, 1), ("look", 1, 2, -2))

    def test_put_has_no_unknown(self):
        body = ("put", "r", ZERO, X, ("let", "u", ("any",), ("give", name("u"))))
        self.assert_paths(body, ((("look", 0, 0, 0), ("look", 0, 2, -1), ("give", 3, 0)), 4))

    def test_middle(self):
        body = ("let", "m", ("middle", name("x", 1), ("len", "r", -3)), ("give", name("m")))
        items = (("look", 1, 2, -4), ("fact", 1, 3, -1), ("fact", 3, 2, -3), ("give", 3, 0))
        self.assert_paths(body, (items, 4))

    def test_never_behind_other_items(self):
        body = ("claim", ("most", X, ZERO), ("never",))
        self.assert_paths(body, ((("look", 1, 0, 0), ("look", 0, 0, -1)), 3))


class Lets(Asks):
    def test_any_has_no_item(self):
        self.assert_paths(("let", "u", ("any",), ("give", name("u", 2))), ((("give", 3, 2),), 4))

    def test_a_term_has_no_unknown_of_its_own(self):
        body = ("let", "u", name("x", 2), ("let", "v", name("u", -5), ("give", name("v", 1))))
        self.assert_paths(body, ((("give", 1, -2),), 3))
        body = ("let", "u", ("num", 2), ("give", name("u", 4)))
        self.assert_paths(body, ((("give", 0, 6),), 3))
        body = ("let", "u", ("len", "r", 2), ("let", "v", ("any",), ("give", name("u", 4))))
        self.assert_paths(body, ((("give", 2, 6),), 4))

    def test_a_name_given_anew(self):
        body = ("let", "x", ("any",), ("let", "x", name("x", 1), ("give", name("x", 1))))
        self.assert_paths(body, ((("give", 3, 2),), 4))
        body = ("let", "x", name("x", 1), ("claim", ("most", ZERO, X), ("give", X)))
        self.assert_paths(body, ((("look", 0, 1, 1), ("give", 1, 1)), 3))

    def test_the_value_is_of_what_is_known_ahead(self):
        body = ("let", "x", ("at", "r", X), ("let", "x", ("at", "r", X), ("give", X)))
        looks = (("look", 0, 1, 0), ("look", 1, 2, -1), ("look", 0, 3, 0), ("look", 3, 2, -1))
        self.assert_paths(body, ((*looks, ("give", 4, 0)), 5))

    def test_a_name_given_anew_is_the_new_one_in_this_body_alone(self):
        body = ("if", MOST, ("let", "x", ("num", 5), ("give", X)), ("give", X))
        self.assert_paths(
            body,
            ((("fact", 0, 0, 1), ("give", 0, 5)), 3),
            ((("fact", 0, 0, -2), ("give", 1, 0)), 3),
        )

    def test_unknowns_in_order(self):
        value = ("middle", name("u"), name("v", 1))
        body = ("let", "u", ("any",), ("let", "v", ("at", "r", ZERO), ("let", "w", value, ("give", name("w")))))
        items = (
            ("look", 0, 0, 0), ("look", 0, 2, -1), ("look", 3, 4, 1), ("fact", 3, 5, 0), ("fact", 5, 4, 1), ("give", 5, 0),
        )
        self.assert_paths(body, (items, 6))


class Calls(unittest.TestCase):
    def test_terms_and_result(self):
        params = (("x", "int"), ("r", "array"), ("y", "int"), ("z", "int"))
        call = ("call", "g", (name("x", 3), ("array", "r"), ("len", "r", -1), ("num", 8)))
        body = ("let", "u", ("any",), ("let", "v", call, ("give", name("v", 1))))
        functions = (fun("f", params, body), fun("g", params, GIVE))
        program = ("program", functions, (("f", ()),))
        items = (("fact", 0, 2, 0), ("call", "g", ((1, 3), (2, 0), (2, -1), (0, 8)), 6), ("give", 6, 1))
        self.assertEqual(paths(program, 0), (items,))
        self.assertEqual(unknowns(program, 0, 0), 7)

    def test_without_arguments(self):
        body = ("let", "v", ("call", "f", ()), ("let", "v", ("call", "f", ()), ("give", name("v"))))
        program = ("program", (fun("f", (), body),), (("f", ()),))
        self.assertEqual(paths(program, 0), ((("call", "f", (), 1), ("call", "f", (), 2), ("give", 2, 0)),))

    def test_the_example(self):
        items = ((("fact", 0, 1, 0), ("call", "f", ((1, 0), (0, 0)), 2), ("give", 2, 0)),)
        self.assertEqual(paths(EXAMPLE, 1), items)
        first = (("fact", 0, 1, 0), ("fact", 1, 2, 0), ("give", 2, 0))
        looks = (("look", 0, 2, 0), ("look", 2, 1, -1))
        second = (("fact", 0, 1, 0), ("fact", 2, 1, -1), *looks, ("call", "f", ((1, 0), (2, 1)), 4), ("give", 4, 0))
        self.assertEqual(paths(EXAMPLE, 0), (first, second))
        self.assertEqual([unknowns(EXAMPLE, 0, 0), unknowns(EXAMPLE, 0, 1), unknowns(EXAMPLE, 1, 0)], [3, 5, 3])


class ByChance(unittest.TestCase):
    def test_as_the_document_says(self):
        for seed in range(150):
            program = Maker(seed).program(depth=7)
            for f, function in enumerate(program[1]):
                with self.subTest((seed, f)):
                    told = paths(program, f)
                    many = [unknowns(program, f, path) for path in range(len(told))]
                    self.assertEqual(list(zip(told, many)), naive.paths_of(function))

    def test_only_tuples_strings_and_integers(self):
        def look_at(thing):
            self.assertIn(type(thing), (tuple, str, int))
            if isinstance(thing, tuple):
                for part in thing:
                    look_at(part)

        for seed in range(20):
            program = Maker(seed).program()
            for f in range(len(program[1])):
                look_at(paths(program, f))
                self.assertIs(type(unknowns(program, f, 0)), int)

    def test_nothing_is_changed_and_the_answers_stay(self):
        for seed in range(20):
            program = Maker(seed).program()
            ahead = copy.deepcopy(program)
            first = paths(program, 0)
            self.assertEqual(paths(program, 0), first)
            self.assertEqual(program, ahead)


if __name__ == "__main__":
    unittest.main()
