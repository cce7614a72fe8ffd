"""a1 to a3, k1, k3 and u1: candidates, the facts ahead of an item, what must follow at it, what is kept and holds."""

import unittest

from claimfall.assignments import candidates, dues_at, facts_at, holds, is_kept, open_facts
from claimfall.paths import paths
from tests import naive
from tests.asks import Unchanged
from tests.chance import Maker
from tests.samples import BOTH, EXAMPLE, EXAMPLE_KEPT, GIVE, MOST, ZERO, fun, name, program_of

HUGE = 10 ** 5000
SEVEN = (-100, -3, -1, 0, 2, 7, 100)
X = name("x")


def nothing(program):
    return tuple(((), ()) for _ in program[1])


class Candidates(unittest.TestCase):
    def test_of_one_param(self):
        program = ("program", (fun("f", (("x", "int"),), GIVE),), (("f", ()),))
        self.assertEqual(
            candidates(program, (0,)),
            ((((0, 1, 0), (1, 0, 0)), ((0, 1, 0), (0, 2, 0), (1, 0, 0), (1, 2, 0), (2, 0, 0), (2, 1, 0))),),
        )
        self.assertEqual(candidates(program, (-2, 5))[0][0], ((0, 1, -2), (0, 1, 5), (1, 0, -2), (1, 0, 5)))

    def test_a_length_is_a_place_like_an_integer(self):
        programs = [("program", (fun("f", (("x", kind),), GIVE),), (("f", ()),)) for kind in ("int", "array")]
        self.assertEqual(*[candidates(program, (-1, 1)) for program in programs])

    def test_without_params(self):
        program = ("program", (fun("f", (), GIVE),), (("f", ()),))
        self.assertEqual(candidates(program, (3,)), (((), ((0, 1, 3), (1, 0, 3))),))

    def test_without_numbers(self):
        self.assertEqual(candidates(EXAMPLE, ()), nothing(EXAMPLE))

    def test_seven_numbers_and_five_params(self):
        params = tuple((word, "int") for word in "abcde")
        program = ("program", (fun("f", params, GIVE), fun("g", (), GIVE)), (("f", ()),))
        (pre, post), (less, more) = candidates(program, SEVEN)
        self.assertEqual([len(part) for part in (pre, post, less, more)], [6 * 5 * 7, 7 * 6 * 7, 0, 2 * 7])
        self.assertEqual((pre[0], pre[6], pre[-1]), ((0, 1, -100), (0, 1, 100), (5, 4, 100)))
        self.assertEqual(list(post), sorted(set(post)))

    def test_as_the_document_says(self):
        for seed in range(40):
            maker = Maker(seed)
            program, numbers = maker.program(), maker.numbers()
            self.assertEqual(candidates(program, numbers), naive.all_candidates(program, numbers))


class Facts(unittest.TestCase):
    def test_those_of_pre_and_then_as_they_come(self):
        facts = ((0, 1, 0), (0, 2, 0), (2, 1, 0), (0, 1, 0), (2, 1, -1), (0, 2, 0), (2, 1, -1))
        for item in range(5):
            with self.subTest(item):
                self.assertEqual(facts_at(EXAMPLE, 0, 1, item, EXAMPLE_KEPT), facts[:3 + item])

    def test_behind_a_call_those_of_post_with_its_terms_and_result(self):
        # Places of f: 1 the length (unknown 1), 2 the integer (unknown 2 and 1), 3 the result (unknown 4).
        post = ((0, 1, 0), (0, 2, 1), (0, 4, 0), (1, 4, 0), (2, 1, -1), (2, 4, -1), (4, 1, 0))
        self.assertEqual(facts_at(EXAMPLE, 0, 1, 5, EXAMPLE_KEPT)[7:], post)
        self.assertEqual(facts_at(EXAMPLE, 1, 0, 2, EXAMPLE_KEPT), (
            (0, 1, 0), (0, 1, 0), (0, 1, 0), (0, 0, 0), (0, 2, 0), (1, 2, 0), (0, 1, 0), (0, 2, 0), (2, 1, 0),
        ))

    def test_a_call_ahead_of_another_one(self):
        call = ("call", "b", (X, ("array", "r")))
        program = program_of(("let", "u", call, ("let", "v", call, ("give", name("v")))), GIVE)
        assignment = (((), ()), (((0, 1, 4),), ((3, 1, 5),)))
        self.assertEqual(facts_at(program, 0, 0, 1, assignment), ((0, 2, 0),))
        self.assertEqual(facts_at(program, 0, 0, 2, assignment), ((0, 2, 0), (3, 1, 5)))
        self.assertEqual(facts_at(program, 0, 0, 3, assignment), ((0, 2, 0), (3, 1, 5), (4, 1, 5)))

    def test_looks_are_facts_behind_them(self):
        program = program_of(("let", "m", ("middle", X, ("len", "r", 3)), GIVE))
        facts = ((0, 2, 0), (1, 2, 3), (1, 3, 0), (3, 2, 3))
        for item in range(5):
            self.assertEqual(facts_at(program, 0, 0, item, nothing(program)), facts[:item])

    def test_numbers_that_are_none_of_the_numbers(self):
        for c in (-101, 5, HUGE):
            assignment = ((((2, 1, c),), ((3, 0, c),)), ((), ()))
            self.assertEqual(facts_at(EXAMPLE, 0, 0, 0, assignment), ((2, 1, c),))
            self.assertEqual(facts_at(EXAMPLE, 1, 0, 2, assignment)[1:], ((2, 0, c),))
            self.assertEqual(dues_at(EXAMPLE, 0, 1, 4, assignment), ((2, 1, c - 1),))
            self.assertEqual(dues_at(EXAMPLE, 0, 1, 5, assignment), ((4, 0, c),))


class Dues(unittest.TestCase):
    def test_at_facts_nothing(self):
        self.assertEqual(dues_at(EXAMPLE, 0, 1, 0, EXAMPLE_KEPT), ())
        self.assertEqual(dues_at(EXAMPLE, 0, 1, 1, EXAMPLE_KEPT), ())

    def test_at_looks_their_own_fact(self):
        self.assertEqual(dues_at(EXAMPLE, 0, 1, 2, EXAMPLE_KEPT), ((0, 2, 0),))
        self.assertEqual(dues_at(EXAMPLE, 0, 1, 3, nothing(EXAMPLE)), ((2, 1, -1),))
        self.assertEqual(dues_at(program_of(("never",)), 0, 0, 1, (((), ()),)), ((0, 0, -1),))

    def test_at_calls_those_of_pre(self):
        # i + a at most j + b + c.
        self.assertEqual(dues_at(EXAMPLE, 0, 1, 4, EXAMPLE_KEPT), ((0, 1, 0), (0, 2, 1), (2, 1, -1)))
        self.assertEqual(dues_at(EXAMPLE, 1, 0, 1, EXAMPLE_KEPT), ((0, 1, 0), (0, 0, 0), (0, 1, 0)))

    def test_at_gives_those_of_post(self):
        dues = ((0, 1, 0), (0, 2, 0), (0, 4, 0), (1, 4, 0), (2, 1, 0), (2, 4, 0), (4, 1, 0))
        self.assertEqual(dues_at(EXAMPLE, 0, 1, 5, EXAMPLE_KEPT), dues)
        program = program_of(("give", name("x", 7)))
        assignment = ((((0, 1, 2),), ((0, 3, 2), (1, 3, 2), (3, 0, 2), (3, 1, 2))),)
        self.assertEqual(dues_at(program, 0, 0, 1, assignment), ((0, 1, 9), (1, 1, 9), (1, 0, -5), (1, 1, -5)))

    def test_two_terms_of_one_unknown(self):
        call = ("call", "f", (X, name("x", 5)))
        body = ("let", "u", call, GIVE)
        program = ("program", (fun("f", (("x", "int"), ("y", "int")), body),), (("f", ()),))
        assignment = ((((1, 2, 0), (2, 1, 0)), ((1, 2, 0), (2, 1, 0))),)
        self.assertEqual(dues_at(program, 0, 0, 0, assignment), ((1, 1, 5), (1, 1, -5)))
        self.assertEqual(facts_at(program, 0, 0, 1, assignment), ((1, 2, 0), (2, 1, 0), (1, 1, 5), (1, 1, -5)))

    def test_as_the_document_says(self):
        for seed in range(60):
            maker = Maker(seed)
            program = maker.program()
            assignment = maker.part_of(program, (-300, 0, 7 ** 30))
            for f in range(len(program[1])):
                for path, items in enumerate(paths(program, f)):
                    for at, item in enumerate(items):
                        facts = naive.facts_ahead(program, f, items, at, assignment)
                        self.assertEqual(facts_at(program, f, path, at, assignment), facts)
                        dues = naive.dues_of(program, f, item, assignment)
                        self.assertEqual(dues_at(program, f, path, at, assignment), dues)


class Opens(unittest.TestCase):
    def test_promises_and_then_lengths(self):
        params = (("x", "int"), ("r", "array"), ("s", "array"))
        opens = (("g", ()), ("f", ((3, 1, -4), (0, 1, 2), (0, 2, 0))))
        program = ("program", (fun("f", params, GIVE), fun("g", params[:2], GIVE)), opens)
        self.assertEqual(open_facts(program, 0), ((0, 2, 0),))
        self.assertEqual(open_facts(program, 1), ((3, 1, -4), (0, 1, 2), (0, 2, 0), (0, 2, 0), (0, 3, 0)))

    def test_neither(self):
        program = ("program", (fun("f", (("x", "int"),), GIVE),), (("f", ()),))
        self.assertEqual(open_facts(program, 0), ())


class Kept(unittest.TestCase):
    def assert_kept(self, program, assignment, kept, held):
        self.assertIs(is_kept(program, assignment), kept)
        self.assertIs(holds(program, assignment), held)

    def test_the_example(self):
        self.assert_kept(EXAMPLE, EXAMPLE_KEPT, True, True)
        self.assert_kept(EXAMPLE, nothing(EXAMPLE), True, False)
        self.assert_kept(EXAMPLE, candidates(EXAMPLE, (0,)), False, True)
        self.assert_kept(EXAMPLE, candidates(EXAMPLE, ()), True, False)

    def test_less_than_the_strongest(self):
        self.assert_kept(EXAMPLE, ((((0, 2, 0),), ()), ((), ())), True, True)
        self.assert_kept(EXAMPLE, ((((2, 1, 0),), ()), ((), ())), True, False)
        # Of g's result nothing follows if nothing is known of f's.
        self.assert_kept(EXAMPLE, ((((0, 2, 0),), ()), ((), ((0, 2, 0),))), False, True)
        self.assert_kept(EXAMPLE, ((((2, 1, 0),), ((3, 0, 0),)), ((), ())), False, False)

    def test_what_an_open_does_not_give(self):
        program = program_of(("let", "u", ("at", "r", X), ("give", name("u"))))
        wanted = ((((0, 1, 0), (1, 2, -1)), ()),)
        self.assert_kept(program, wanted, False, True)
        promised = (*program[:2], (("a", ((1, 2, -1), (0, 1, 0))),))
        self.assert_kept(promised, wanted, True, True)
        self.assert_kept((*program[:2], (("a", ((1, 2, -1), (0, 1, -1))),)), wanted, True, True)
        self.assert_kept((*program[:2], (("a", ((1, 2, -1), (0, 1, 1))),)), wanted, False, True)

    def test_lengths_are_given_at_an_open_and_on_each_path(self):
        program = program_of(("give", ("len", "r", 0)))
        self.assert_kept(program, ((((0, 2, 0),), ((0, 3, 0),)),), True, True)
        self.assert_kept(program, ((((0, 2, 1),), ((0, 3, 1),)),), True, True)
        self.assert_kept(program, ((((0, 2, -1),), ()),), False, True)
        self.assert_kept(program, (((), ((0, 3, 0), (2, 3, 0), (3, 2, 0))),), True, True)
        self.assert_kept(program, (((), ((0, 3, -1),)),), False, True)

    def test_each_open_asks_for_its_own(self):
        program = (*program_of(GIVE, GIVE)[:2], (("a", ((0, 1, 0),)), ("b", ((0, 1, -1),))))
        self.assert_kept(program, (((), ()), (((0, 1, -1),), ())), True, True)
        self.assert_kept(program, ((((0, 1, -1),), ()), ((), ())), False, True)
        self.assert_kept(program, ((((0, 1, 0),), ()), (((0, 1, -2),), ())), False, True)

    def test_what_nothing_calls_has_any_pre(self):
        program = program_of(GIVE, ("let", "u", ("at", "r", X), ("give", name("u"))))
        self.assert_kept(program, (((), ()), (((0, 1, 0), (1, 2, -1)), ())), True, True)
        self.assert_kept(program, (((), ()), ((), ())), True, False)

    def test_pre_that_clashes(self):
        program = program_of(GIVE, ("never",))
        clash = ((0, 1, -1), (1, 0, -1))
        self.assert_kept(program, (((), ()), (clash, ((3, 0, -1),))), True, True)
        self.assert_kept(program, (((), ()), ((), ((3, 0, -1),))), True, False)
        called = program_of(("let", "u", ("call", "b", (X, ("array", "r"))), GIVE), ("never",))
        self.assert_kept(called, (((), ()), (clash, ())), False, True)
        self.assert_kept(called, ((clash, ()), (clash, ())), False, True)

    def test_post_of_what_never_gives(self):
        never = ((0, 3, -1), (3, 0, -1))
        call = ("let", "u", ("call", "b", (X, ("array", "r"))), ("never",))
        program = program_of(call, ("let", "u", ("call", "b", (X, ("array", "r"))), ("give", name("u"))))
        self.assert_kept(program, (((), ()), ((), never)), True, True)
        self.assert_kept(program, (((), ()), ((), ((0, 3, -1),))), True, False)

    def test_facts_that_clash_on_a_path(self):
        body = ("if", ("most", ("len", "r", 0), ("num", -1)), ("never",), ("give", ("num", 4)))
        self.assert_kept(program_of(body), (((), ((0, 3, -4), (3, 0, 4))),), True, True)
        self.assert_kept(program_of(body), (((), ((0, 3, -5), (3, 0, 4))),), False, True)

    def test_a_look_helps_those_behind_it(self):
        once = ("let", "u", ("at", "r", X), GIVE)
        twice = ("let", "u", ("at", "r", X), ("claim", ("most", ZERO, X), GIVE))
        looked = ((((0, 1, 0), (1, 2, -1)), ()),)
        for body in (once, twice, ("put", "r", X, ZERO, once)):
            program = (*program_of(body)[:2], (("a", ((1, 2, -1), (0, 1, 0))),))
            self.assert_kept(program, looked, True, True)
            self.assert_kept(program, (((), ()),), True, False)
            # What holds at no look may still help what is behind it.
            self.assert_kept(program, (((), ((0, 1, 0), (1, 2, -1))),), True, False)

    def test_a_fact_of_a_call_ahead(self):
        call = ("call", "b", (X, ("array", "r")))
        body = ("let", "u", call, ("claim", ("most", ZERO, name("u")), ("let", "v", call, ("give", name("u")))))
        program = program_of(body, ("give", ("num", 1)))
        self.assert_kept(program, (((), ((0, 3, 0),)), ((), ((0, 3, 0),))), True, True)
        self.assert_kept(program, (((), ((0, 3, 0),)), ((), ((0, 3, 1),))), True, False)
        behind = ("let", "u", ("any",), ("claim", ("most", ZERO, name("u")), ("let", "u", call, GIVE)))
        self.assert_kept(program_of(behind, ("give", ("num", 1))), (((), ()), ((), ((0, 3, 0),))), True, False)

    def test_each_way_of_same(self):
        body = ("if", ("same", X, ZERO), GIVE, ("claim", ("most", X, ("num", -1)), GIVE))
        promised = (*program_of(body)[:2], (("a", ((1, 0, 0),)),))
        self.assert_kept(promised, ((((1, 0, 0),), ()),), True, True)
        self.assert_kept(promised, (((), ()),), True, False)

    def test_numbers_of_any_size(self):
        body = ("let", "u", ("any",), ("claim", ("most", ("num", HUGE), X), ("give", name("x", HUGE))))
        program = (*program_of(body)[:2], (("a", ((0, 1, -HUGE),)),))
        self.assert_kept(program, ((((0, 1, -HUGE),), ((0, 3, -2 * HUGE), (3, 1, HUGE))),), True, True)
        self.assert_kept(program, ((((0, 1, -HUGE),), ((0, 3, -2 * HUGE - 1),)),), False, True)
        self.assert_kept(program, ((((0, 1, 1 - HUGE),), ((3, 1, HUGE - 1),)),), False, False)
        self.assert_kept(program, ((((0, 1, -HUGE - 1),), ()),), False, True)

    def test_what_is_kept_with_minus_1_and_0(self):
        pre = ((0, 1, -1), (0, 2, 0), (2, 1, -1))
        self.assert_kept(BOTH, ((pre, ()), ((), ())), True, True)
        for left in range(3):
            less = pre[:left] + pre[left + 1:]
            self.assert_kept(BOTH, ((less, ()), ((), ())), True, left == 0)

    def test_calls_among_themselves(self):
        call = ("let", "u", ("call", "b", (name("x", -1), ("array", "r"))), ("give", name("u", 1)))
        body = ("if", ("most", X, ZERO), ("give", X), call)
        program = program_of(body, ("let", "u", ("call", "a", (X, ("array", "r"))), ("give", name("u"))))
        self.assert_kept(program, (((), ((3, 1, 0),)), ((), ((3, 1, 0),))), True, True)
        self.assert_kept(program, (((), ((3, 1, 0),)), ((), ())), False, True)
        self.assert_kept(program, (((), ((3, 1, 0), (1, 3, 0))), ((), ((3, 1, 0), (1, 3, 0)))), True, True)
        self.assert_kept(program, (((), ((3, 1, -1),)), ((), ((3, 1, -1),))), False, True)

    def test_a_body_that_only_calls_itself_gives_all(self):
        program = program_of(("let", "u", ("call", "a", (X, ("array", "r"))), ("give", name("u"))))
        self.assert_kept(program, (((), ((0, 3, -9), (3, 0, -9))),), True, True)
        self.assert_kept(program_of(("if", MOST, GIVE, program[1][0][3])), (((), ((0, 3, -9), (3, 0, -9))),), False, True)

    def test_as_the_document_says(self):
        found = {}
        for seed in range(120):
            maker = Maker(seed)
            program, numbers = maker.program(), maker.numbers()
            part = maker.part_of(program, numbers, 0.3)
            for assignment in (part, naive.strongest_of(program, part)):
                expected = (naive.keeps(program, assignment), naive.holds_at_looks(program, assignment))
                with self.subTest((seed, assignment)):
                    self.assertEqual((is_kept(program, assignment), holds(program, assignment)), expected)
                found[expected] = found.get(expected, 0) + 1
        self.assertEqual(len(found), 4)
        self.assertGreater(min(found.values()), 5)


class Same(Unchanged):
    def test_nothing_is_changed_and_the_answers_stay(self):
        self.assert_unchanged((
            (candidates, [EXAMPLE, (-1, 0)]), (facts_at, [EXAMPLE, 0, 1, 5, EXAMPLE_KEPT]),
            (dues_at, [EXAMPLE, 0, 1, 5, EXAMPLE_KEPT]), (open_facts, [EXAMPLE, 0]),
            (is_kept, [EXAMPLE, EXAMPLE_KEPT]), (holds, [EXAMPLE, EXAMPLE_KEPT]),
        ), (tuple, bool))


if __name__ == "__main__":
    unittest.main()
