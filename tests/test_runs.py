"""r1 to r3, r6, r7 and u1: calls, runs, trails, bounds, and what runs break."""

import copy
import unittest

from claimfall.assignments import candidates
from claimfall.errors import BadEntry, BadState, TooGreat
from claimfall.programs import check_program
from claimfall.runs import broken, broken_within, check_call, run, trail, wrong_call
from tests import naive_runs
from tests.asks import Unchanged
from tests.chance import Maker
from tests.naive_runs import Slow
from tests.samples import (
    BOTH, DEEP, DOWN, EXAMPLE, GIVE, HALVES, JUNK, LOST, MOST, ZERO, fun, name, program_of,
)

X = name("x")
MANY = 100000


def entry(*arguments, outside=(), word="a"):
    return ("call", word, arguments, outside)


def any_of(body, *words):
    """A body behind lets of any."""
    for word in reversed(words):
        body = ("let", word, ("any",), body)
    return body


class Calls(unittest.TestCase):
    PROGRAM = (
        "program",
        (
            fun("f", (("x", "int"), ("r", "array"), ("y", "int")), GIVE), fun("g", (), GIVE), fun("h", (("x", "int"),), GIVE),
            fun("k", (("r", "array"),), GIVE),
        ),
        (("f", ((0, 1, -1), (1, 2, 0), (3, 2, 5))), ("g", ()), ("k", ((1, 0, 2),))),
    )

    def assert_place(self, thing, place):
        with self.assertRaises(BadEntry) as caught:
            check_call(self.PROGRAM, thing)
        self.assertEqual(caught.exception.place, place, thing)

    def test_right_ones(self):
        for thing in (
            ("call", "f", (1, (0,), 0), ()), ("call", "f", (1, (0,), 6), (5, -5)), ("call", "f", (2, (1, -1, 10 ** 50), -10 ** 50), ()),
            ("call", "g", (), ()), ("call", "g", (), (1,) * 1000), ("call", "k", ((),), ()), ("call", "k", ((7, 7),), (0,)),
        ):
            self.assertIsNone(check_call(self.PROGRAM, thing))

    def test_the_whole_and_its_word(self):
        right = ("call", "g", (), ())
        for thing in (*JUNK, DEEP, [DEEP], list(right), right[:3], (*right, ()), ("calls", *right[1:]), (None, *right[1:]),
                      (DEEP, *right[1:]), (right,), "call", ("call",), (right[0:1], *right[1:]), (["call"], *right[1:])):
            self.assert_place(thing, 0)

    def test_the_name(self):
        # h is a function, but not open; z is none.
        for word in ("h", "z", "", "ff", None, True, 0, ("f",), ["f"], DEEP):
            self.assert_place(("call", word, (), ()), 1)
            self.assert_place(("call", word, None, None), 1)

    def test_the_arguments(self):
        for arguments in (
            (), (1, (0,)), (1, (0,), 0, 0), ((0,), 1, 0), (1, (0,), (0,)), (1, 0, 0), (True, (0,), 0), (1, (0,), False), (1, [0], 0),
            [1, (0,), 0], (1, (0, True), 0), (1, (0, (0,)), 0), (1, (0, "0"), 0), (1, (0, None), 0), (None, (0,), 0), ("1", (0,), 0),
            (1, None, 0), (1, "", 0), None, 1, "", (1, DEEP, 0), (DEEP, (0,), 0), DEEP, (1, ([0],), 0), (1, (0,), ()),
        ):
            self.assert_place(("call", "f", arguments, ()), 2)
            self.assert_place(("call", "f", arguments, None), 2)
        self.assert_place(("call", "g", (0,), ()), 2)
        self.assert_place(("call", "k", (), ()), 2)
        self.assert_place(("call", "k", (0,), ()), 2)

    def test_outside(self):
        for outside in (None, 0, [], [0], "", (True,), (0, None), (0, "1"), ((0,),), (0, 1, False), DEEP, True):
            self.assert_place(("call", "g", (), outside), 3)
            # Ahead of the promises.
            self.assert_place(("call", "f", (0, (), 9), outside), 3)

    def test_promises(self):
        # 1 at most x, x at most the length, y at most the length and 5.
        for arguments, right in (
            ((1, (0,), 6), True), ((1, (0,), 7), False), ((0, (0,), 6), False), ((2, (0,), 6), False), ((2, (0, 0), 7), True),
            ((1, (), 0), False), ((-1, (0,), 0), False), ((1, (0, 0, 0), 8), True), ((1, (0, 0, 0), 9), False),
        ):
            if right:
                self.assertIsNone(check_call(self.PROGRAM, ("call", "f", arguments, ())))
            else:
                with self.assertRaises(BadState):
                    check_call(self.PROGRAM, ("call", "f", arguments, ()))
        with self.assertRaises(BadState):
            check_call(self.PROGRAM, ("call", "k", ((0, 0, 0),), ()))
        # Each open has promises of its own, in the order of the opens, not of the functions.
        turned = (*self.PROGRAM[:2], tuple(reversed(self.PROGRAM[2])))
        check_call(turned, ("call", "k", ((0, 0),), ()))
        with self.assertRaises(BadState):
            check_call(turned, ("call", "f", (0, (0,), 0), ()))

    def test_one_thing_changed(self):
        right = ("call", "f", (1, (0, 2), 3), (4, 5))
        check_call(self.PROGRAM, right)
        for at in range(4):
            others = [None, True, 0, "x", [], list(right[at]), (right[at],), right[at] * 2, right[at][1:], [right[at]]]
            for other in others:
                thing = (*right[:at], other, *right[at + 1:])
                if thing != right and not (at == 3 and type(other) is tuple and other != (right[3],)):
                    self.assert_place(thing, at)
            self.assert_place((*right[:at], *right[at + 1:]), 0)
            self.assert_place((*right[:at], right[at], *right[at:]), 0)
        check_call(self.PROGRAM, (*right[:3], (4, 5, 4, 5)))


class Ends(unittest.TestCase):
    def assert_run(self, body, call, end, steps=None, most=MANY):
        program = program_of(body, GIVE)
        check_program(program)
        told = run(program, call, most)
        self.assertEqual(told[0], end)
        if steps is not None:
            self.assertEqual(told[1], steps)
        slow = Slow(program, call, most).go()
        self.assertEqual(told, (slow.end, slow.steps))
        self.assertEqual(trail(program, call, most), slow.acts())

    def test_gives(self):
        call = entry(7, (1, 2, 3))
        for term, number in ((ZERO, 0), (("num", -4), -4), (X, 7), (name("x", -9), -2), (("len", "r", 0), 3), (("len", "r", 1), 4)):
            self.assert_run(("give", term), call, ("gives", number), 1)
        great = 10 ** 60
        self.assert_run(("give", name("x", great)), entry(great, ()), ("gives", 2 * great), 1)

    def test_an_index(self):
        looked = ("let", "u", ("at", "r", X), ("give", name("u")))
        stored = ("put", "r", X, ("num", 9), ("let", "u", ("at", "r", ZERO), ("give", name("u"))))
        for index, end in ((-2, "below"), (-1, "below"), (0, 5), (1, 6), (2, 7), (3, "beyond"), (4, "beyond"), (10 ** 40, "beyond"),
                           (-10 ** 40, "below")):
            wrong = isinstance(end, str)
            told = ("wrong", end, (("a", ()),)) if wrong else ("gives", end)
            self.assert_run(looked, entry(index, (5, 6, 7)), told, 1 if wrong else 2)
            told = ("wrong", end, (("a", ()),)) if wrong else ("gives", 9 if index == 0 else 5)
            self.assert_run(stored, entry(index, (5, 6, 7)), told, 1 if wrong else 3)
        for index, why in ((-1, "below"), (0, "beyond"), (1, "beyond")):
            self.assert_run(looked, entry(index, ()), ("wrong", why, (("a", ()),)), 1)

    def test_conditions_just_so_and_just_not(self):
        for word, rows in (("most", ((4, True), (5, True), (6, False))), ("same", ((4, False), (5, True), (6, False)))):
            for number, right in rows:
                condition = (word, X, ("num", 5))
                self.assert_run(("if", condition, ("give", ("num", 1)), ("give", ("num", 2))), entry(number, ()),
                                ("gives", 1 if right else 2), 2)
                end = ("gives", 0) if right else ("wrong", "claim", (("a", ()),))
                self.assert_run(("claim", condition, GIVE), entry(number, ()), end, 2 if right else 1)

    def test_middle(self):
        for s, t, half in ((0, 0, 0), (1, 1, 1), (-1, -1, -1), (0, 1, 0), (1, 2, 1), (-1, 0, -1), (-2, -1, -2), (-3, 0, -2), (-5, 2, -2),
                           (0, 7, 3), (-7, 0, -4), (3, 9, 6), (2, 1, None), (0, -1, None), (-1, -2, None), (9, -9, None)):
            body = any_of(("let", "m", ("middle", X, name("v")), ("give", name("m"))), "v")
            end = ("wrong", "middle", (("a", (0,)),)) if half is None else ("gives", half)
            self.assert_run(body, entry(s, (), outside=(t,)), end, 2 if half is None else 3)
        great = 10 ** 30
        told = run(program_of(any_of(("let", "m", ("middle", X, name("v")), ("give", name("m"))), "v")),
                   entry(great, (), outside=(great + 3,)), 3)
        self.assertEqual(told, (("gives", great + 1), 3))

    def test_never(self):
        self.assert_run(("never",), entry(0, ()), ("wrong", "never", (("a", ()),)), 1)
        self.assert_run(("if", MOST, GIVE, ("never",)), entry(0, ()), ("gives", 0), 2)

    def test_any(self):
        body = any_of(("give", name("v", 100)), "u", "v")
        for outside, end, steps in (((), ("waits",), 1), ((1,), ("waits",), 2), ((1, 2), ("gives", 102), 3), ((1, 2, 3), ("gives", 102), 3)):
            self.assert_run(body, entry(0, (), outside=outside), end, steps)

    def test_any_in_several_activations(self):
        inner = ("let", "u", ("call", "a", (name("x", -1), ("array", "r"))), any_of(("give", name("v")), "v"))
        body = any_of(("if", ("most", X, ZERO), ("give", name("w")), inner), "w")
        for outside, end in (((1, 2, 3, 4, 5), ("gives", 5)), ((1, 2, 3), ("waits",)), ((1, 2), ("waits",)), ((1, 2, 3, 4), ("waits",))):
            self.assert_run(body, entry(2, (), outside=outside), end)

    def test_a_let_given_anew(self):
        body = ("let", "u", X, ("let", "x", name("u", 5), ("let", "u", name("x", 1), ("claim", ("same", name("u"), name("x", 1)),
                                                                                   ("give", name("u"))))))
        self.assert_run(body, entry(2, ()), ("gives", 8), 5)
        # In another activation a name is another one.
        body = ("if", ("most", X, ZERO), ("let", "y", ("num", 50), ("give", name("y"))),
                ("let", "y", X, ("let", "u", ("call", "a", (name("x", -1), ("array", "r"))), ("give", name("y")))))
        self.assert_run(body, entry(3, ()), ("gives", 3))

    def test_exactly_as_many_steps(self):
        body = ("claim", MOST, ("claim", MOST, ("let", "u", ("call", "b", (X, ("array", "r"))), ("give", name("u", 4)))))
        for most in (5, 6, 7, 100):
            self.assert_run(body, entry(0, ()), ("gives", 4), 5, most)
        for most in (1, 2, 3, 4):
            self.assert_run(body, entry(0, ()), ("long",), most, most)
        for last, end in ((("never",), ("wrong", "never", (("a", (0,)),))), (any_of(GIVE, "u"), ("waits",))):
            for most, told in ((1, ("long",)), (2, end), (3, end)):
                self.assert_run(("claim", MOST, last), entry(0, ()), told, min(most, 2), most)

    def test_it_never_ends(self):
        body = ("let", "u", ("call", "a", (name("x", 1), ("array", "r"))), ("give", name("u")))
        for most in (1, 2, 50, 300):
            self.assert_run(body, entry(0, ()), ("long",), most, most)

    def test_places(self):
        wrong = ("claim", ("most", X, ("num", 6)), ("never",))
        body = ("if", ("most", X, ZERO), ("if", ("most", ("num", 0), X), wrong, ("let", "u", X, ("if", MOST, GIVE, GIVE))),
                ("claim", MOST, ("put", "r", ZERO, ZERO, ("if", ("same", X, ("num", 5)), wrong, ("let", "u", ("any",), wrong)))))
        for number, why, place in ((0, "never", (0, 0, 0)), (5, "never", (1, 0, 0, 0, 0)), (6, "never", (1, 0, 0, 1, 0, 0)),
                                   (7, "claim", (1, 0, 0, 1, 0))):
            self.assert_run(body, entry(number, (1,), outside=(1,)), ("wrong", why, (("a", place),)))

    def test_places_of_several_activations(self):
        functions = (
            fun("a", (("x", "int"), ("r", "array")),
                ("if", ("most", X, ZERO), ("let", "u", ("call", "b", (("array", "r"),)), GIVE),
                 ("claim", MOST, ("let", "u", ("call", "a", (name("x", -1), ("array", "r"))), GIVE)))),
            fun("b", (("r", "array"),), ("if", ("same", ZERO, ("num", 1)), GIVE, ("let", "u", ("at", "r", ("num", 2)), GIVE))),
        )
        program = ("program", functions, (("a", ()), ("b", ())))
        for many in range(4):
            told = run(program, entry(many, (1,)), MANY)
            where = (("a", (1, 0)),) * many + (("a", (0,)), ("b", (1,)))
            self.assertEqual(told, (("wrong", "beyond", where), 3 * many + 4))
        self.assertEqual(run(program, entry((1,), word="b"), MANY), (("wrong", "beyond", (("b", (1,)),)), 2))
        self.assertEqual(run(program, entry((1, 2, 3), word="b"), MANY), (("gives", 0), 3))

    def test_an_activation_that_has_given_is_nowhere(self):
        body = ("let", "u", ("call", "b", (X, ("array", "r"))), ("let", "v", ("call", "b", (X, ("array", "r"))), ("never",)))
        self.assert_run(body, entry(0, ()), ("wrong", "never", (("a", (0, 0)),)), 5)

    def test_the_example(self):
        call = ("call", "g", ((4, 5),), ())
        self.assertEqual(run(EXAMPLE, call, MANY), (("gives", 2), 1 + 3 + 3 + 2 + 2 + 1))
        self.assertEqual(trail(EXAMPLE, call, MANY), (
            ("act", 1, 0, (0, 2, 2)), ("act", 0, 1, (0, 2, 0, 4, 2)), ("act", 0, 1, (0, 2, 1, 5, 2)), ("act", 0, 0, (0, 2, 2)),
        ))


class Arrays(unittest.TestCase):
    def put_both(self):
        """f puts 7 into its first array and gives the first entry of its second one."""
        inner = fun("f", (("p", "array"), ("q", "array")),
                    ("put", "p", ZERO, ("num", 7), ("let", "u", ("at", "q", ZERO), ("give", name("u")))))
        outer = fun("g", (("p", "array"), ("q", "array")),
                    ("let", "u", ("call", "f", (("array", "p"), ("array", "p"))), ("give", name("u"))))
        other = fun("h", (("p", "array"), ("q", "array")),
                    ("let", "u", ("call", "f", (("array", "p"), ("array", "q"))),
                     ("let", "v", ("at", "p", ZERO), ("if", ("same", name("v"), ("num", 7)), ("give", name("u", 100)), ("give", name("u"))))))
        return ("program", (inner, outer, other), (("f", ()), ("g", ()), ("h", ())))

    def test_one_array_for_two_params(self):
        program = self.put_both()
        self.assertEqual(run(program, ("call", "g", ((1,), (2,)), ()), MANY)[0], ("gives", 7))

    def test_each_array_of_a_call_is_one_of_its_own(self):
        same = (1,)
        for arguments in (((1,), (2,)), (same, same), ((1, 3), (1, 3))):
            told = run(self.put_both(), ("call", "f", arguments, ()), MANY)[0]
            self.assertEqual(told, ("gives", arguments[1][0]))

    def test_what_put_changes_is_seen_by_the_function_that_handed_the_array_in(self):
        self.assertEqual(run(self.put_both(), ("call", "h", ((1,), (2,)), ()), MANY)[0], ("gives", 102))

    def test_the_call_is_not_changed(self):
        call = ("call", "h", ((1,), (2,)), ())
        kept = copy.deepcopy(call)
        for _ in range(2):
            self.assertEqual(run(self.put_both(), call, MANY)[0], ("gives", 102))
        self.assertEqual(call, kept)

    def test_put_of_what_is_read(self):
        # r[x] = x + 1 for each x of the array, and back.
        up = ("let", "u", ("call", "a", (name("x", 1), ("array", "r"))),
              ("let", "v", ("at", "r", X), ("claim", ("same", name("v"), name("x", 1)), ("give", name("v")))))
        body = ("if", ("most", ("len", "r", 0), X), GIVE, ("put", "r", X, name("x", 1), up))
        self.assertEqual(run(program_of(body), entry(0, (9, 9, 9, 9)), MANY)[0], ("gives", 1))


class Trails(unittest.TestCase):
    def test_values_as_far_as_it_has_come(self):
        body = ("let", "u", ("at", "r", ZERO), ("let", "w", name("u", 3), ("let", "v", ("middle", name("u"), X), any_of(
            ("let", "z", ("call", "b", (name("t"), ("array", "r"))), ("let", "y", ("at", "r", name("t")), ("give", name("y")))), "t"))))
        program = program_of(body, ("claim", ("most", X, ("num", 1)), ("give", name("x", 10))))
        for call, rows in (
            (entry(9, (3, 4), outside=(1,)), (("act", 0, 0, (0, 9, 2, 3, 6, 1, 11, 4)), ("act", 1, 0, (0, 1, 2)))),
            (entry(9, (), outside=(1,)), (("act", 0, -1, (0, 9, 0)),)),
            (entry(2, (3,), outside=(1,)), (("act", 0, -1, (0, 2, 1, 3)),)),
            (entry(9, (3,)), (("act", 0, -1, (0, 9, 1, 3, 6)),)),
            (entry(9, (3,), outside=(2,)), (("act", 0, -1, (0, 9, 1, 3, 6, 2, None)), ("act", 1, -1, (0, 2, 1)))),
            (entry(9, (3,), outside=(1,)), (("act", 0, -1, (0, 9, 1, 3, 6, 1, 11)), ("act", 1, 0, (0, 1, 1)))),
        ):
            self.assertEqual(trail(program, call, MANY), rows)
            self.assertEqual(Slow(program, call, MANY).go().acts(), rows)

    def test_too_long_at_a_call(self):
        body = ("let", "u", ("call", "b", (X, ("array", "r"))), ("give", name("u")))
        program = program_of(body, ("claim", MOST, GIVE))
        call = entry(4, ())
        began = (("act", 0, -1, (0, 4, 0, None)), ("act", 1, -1, (0, 4, 0)))
        for most, rows in ((1, began), (2, began), (3, (("act", 0, -1, (0, 4, 0, 0)), ("act", 1, 0, (0, 4, 0)))),
                           (4, (("act", 0, 0, (0, 4, 0, 0)), ("act", 1, 0, (0, 4, 0))))):
            self.assertEqual(trail(program, call, most), rows)

    def test_the_numbers_of_the_paths(self):
        leaf = GIVE
        two = ("if", ("same", X, ("num", 1)), leaf, ("if", ("most", X, ("num", 5)), leaf, leaf))
        body = ("if", ("most", X, ("num", 3)), two, ("claim", MOST, ("if", ("same", X, ("num", 7)), two, ("if", ("same", X, ("num", 9)), leaf, two))))
        program = program_of(body)
        seen = set()
        for number in range(-3, 15):
            told = trail(program, entry(number, ()), MANY)
            self.assertEqual(told, Slow(program, entry(number, ()), MANY).go().acts())
            seen.add(told[0][2])
        self.assertGreater(len(seen), 6)
        # same: the first body, then less, then greater.
        program = program_of(("if", ("same", X, ZERO), ("if", MOST, leaf, leaf), ("if", MOST, leaf, leaf)))
        self.assertEqual([trail(program, entry(number, ()), MANY)[0][2] for number in (0, -1, 1)], [0, 2, 4])
        # most: the first body's ways ahead of the second's.
        program = program_of(("if", ("most", X, ZERO), two, leaf))
        self.assertEqual([trail(program, entry(number, ()), MANY)[0][2] for number in (0, 1)], [1, 5])

    def test_by_chance(self):
        ends = {}
        for seed in range(300):
            maker = Maker(seed)
            program = maker.program(functions=3, depth=6)
            calls = naive_runs.calls_within(program, (-1, 2, 2, 1, 50))
            for call in maker.chance.sample(calls, min(len(calls), 20)):
                most = maker.chance.choice((1, 2, 3, 5, 10, 200))
                slow = Slow(program, call, most).go()
                with self.subTest(seed):
                    self.assertEqual(run(program, call, most), (slow.end, slow.steps))
                    self.assertEqual(trail(program, call, most), slow.acts())
                    ends[slow.end[:2] if slow.end[0] == "wrong" else slow.end[0]] = True
        self.assertEqual(set(ends), {"gives", "waits", "long", *[("wrong", why) for why in ("below", "beyond", "claim", "middle", "never")]})


class Great(unittest.TestCase):
    def test_as_many_activations_within_one_another_as_steps(self):
        body = ("let", "u", ("call", "a", (name("x", 1), ("array", "r"))), ("give", name("u")))
        program = program_of(body)
        self.assertEqual(run(program, entry(0, ()), MANY), (("long",), MANY))
        told = trail(program, entry(0, ()), MANY)
        self.assertEqual(len(told), MANY + 1)
        self.assertEqual(told[-1], ("act", 0, -1, (0, MANY, 0)))
        self.assertEqual(told[0], ("act", 0, -1, (0, 0, 0, None)))

    def test_down_and_back(self):
        down = ("let", "u", ("call", "a", (name("x", -1), ("array", "r"))), ("give", name("u", 1)))
        program = program_of(("if", ("most", X, ZERO), GIVE, down))
        self.assertEqual(run(program, entry(30000, ()), MANY), (("gives", 30000), 3 * 30000 + 2))
        wrong = program_of(("if", ("most", X, ZERO), ("never",), down))
        end, steps = run(wrong, entry(40000, ()), MANY)
        self.assertEqual((end[:2], steps, len(end[2])), (("wrong", "never"), 80002, 40001))
        self.assertEqual(end[2][-2:], (("a", (1,)), ("a", (0,))))
        self.assertEqual(broken(program, (0,), entry(30000, ()), MANY)[0][0], ((1, 0, 0), (1, 2, 0)))


class Bounds(unittest.TestCase):
    def test_the_first_in_order(self):
        bad = ("never",)
        program = program_of(bad, bad)
        opened = (*program[:2], (("b", ()), ("a", ())))
        for each, bounds, call in (
            (program, (-1, 2, 3, 2, 9), ("call", "a", (-1, ()), ())), (opened, (-1, 2, 3, 2, 9), ("call", "b", (-1, ()), ())),
            (program, (5, 5, 0, 0, 1), ("call", "a", (5, ()), ())),
        ):
            self.assertEqual(wrong_call(each, bounds), (call, ("wrong", "never", ((call[1], ()),))))

    def test_by_the_open_then_outside_then_args(self):
        # Wrong in b's first call alone is ahead of anything wrong of a, b being the first open.
        right, wrong = ("if", ("same", X, ("num", 2)), ("never",), GIVE), any_of(("never",), "u", "v")
        program = program_of(right, wrong)
        for opens, word in (((("a", ()), ("b", ())), "a"), ((("b", ()), ("a", ())), "b")):
            told = wrong_call((*program[:2], opens), (0, 2, 1, 2, 9))
            self.assertEqual(told[0][1], word)
        self.assertEqual(wrong_call((*program[:2], (("b", ()),)), (0, 2, 1, 2, 9))[0], ("call", "b", (0, ()), (0, 0)))
        # A shorter outside is ahead, whatever stands in args.
        body = any_of(("if", ("same", X, name("u")), ("if", ("same", X, ("num", 2)), ("never",), any_of(("never",), "v")),
                       any_of(("never",), "v")), "u")
        self.assertEqual(wrong_call(program_of(body), (0, 2, 0, 2, 9))[0], ("call", "a", (2, ()), (2,)))
        # The same outside: the args as tuples, arrays with fewer entries first.
        params = (("r", "array"), ("x", "int"), ("s", "array"))
        for condition, arguments in (
            (("most", ("num", 2), ("len", "r", 0)), ((-1, -1), -1, ())), (("most", ("num", 1), X), ((), 1, ())),
            (("most", ("len", "r", 1), ("len", "s", 0)), ((), -1, (-1,))), (("same", X, ("len", "r", 0)), ((), 0, ())),
        ):
            program = ("program", (fun("f", params, ("if", condition, ("never",), GIVE)),), (("f", ()),))
            self.assertEqual(wrong_call(program, (-1, 1, 2, 0, 9)), (("call", "f", arguments, ()), ("wrong", "never", (("f", (0,)),))))
        entries = ("let", "u", ("at", "r", ZERO), ("let", "v", ("at", "r", ("num", 1)), ("if", ("most", name("v", 1), name("u")), ("never",), GIVE)))
        program = program_of(("if", ("most", ("len", "r", 0), ("num", 1)), GIVE, entries))
        self.assertEqual(wrong_call(program, (-1, 1, 2, 0, 9))[0], ("call", "a", (-1, (0, -1)), ()))

    def test_none(self):
        self.assertIsNone(wrong_call(EXAMPLE, (-2, 2, 3, 2, 100)))
        self.assertIsNone(wrong_call(HALVES, (-2, 2, 3, 0, 100)))
        self.assertIsNone(wrong_call(DOWN, (-5, 5, 0, 0, 100)))
        self.assertIsNone(wrong_call(BOTH, (0, 0, 8, 8, 100)))
        self.assertEqual(wrong_call(LOST, (-3, 3, 3, 2, 100)), (("call", "f", (-3,), ()), ("wrong", "claim", (("f", ()),))))

    def test_too_few_steps_are_not_wrong(self):
        program = program_of(("claim", MOST, ("claim", MOST, ("never",))))
        for most, wrong in ((1, False), (2, False), (3, True), (100000, True)):
            self.assertIs(wrong_call(program, (0, 0, 0, 0, most)) is not None, wrong)

    def test_promises(self):
        wrong = ("if", ("most", ZERO, X), ("never",), ("claim", ("most", X, ("num", -9)), GIVE))
        for promises, found in (((), -3), (((0, 1, 0),), 0), (((0, 1, -2),), 2), (((0, 1, -3), (1, 2, 1)), 3), (((0, 1, -4),), None),
                                (((0, 1, 0), (1, 0, -1)), None)):
            program = (*program_of(wrong)[:2], (("a", promises),))
            told = wrong_call(program, (-3, 3, 2, 0, 9))
            if found is None:
                self.assertIsNone(told)
                self.assertEqual(broken_within(program, (0,), (-3, 3, 2, 0, 9)), (((), ()),))
            else:
                length = 2 if len(promises) == 2 else 0
                self.assertEqual(told[0], ("call", "a", (found, (-3,) * length), ()))

    def test_exactly_twenty_thousand(self):
        one = ("program", (fun("f", (("x", "int"),), GIVE), fun("g", (), ("never",))), (("f", ()), ("g", ())))
        alone = (*one[:2], (("f", ()),))
        self.assertIsNone(wrong_call(alone, (1, 20000, 0, 0, 1)))
        for program, bounds in ((alone, (0, 20000, 0, 0, 1)), (one, (1, 20000, 0, 0, 1)), (alone, (-10 ** 30, 10 ** 30, 8, 8, 1)),
                                (alone, (1, 142, 0, 1, 1))):
            with self.assertRaises(TooGreat):
                wrong_call(program, bounds)
            with self.assertRaises(TooGreat):
                broken_within(program, (0,), bounds)
        self.assertEqual(wrong_call(one, (1, 19999, 0, 0, 1))[0], ("call", "g", (), ()))
        self.assertIsNotNone(broken_within(one, (0,), (1, 19999, 0, 0, 1)))
        # With outside: 140 * (1 + 140) are few enough, 142 * 143 too many; arrays of up to 8 entries of 0 to 2 are 9841.
        self.assertIsNone(wrong_call(alone, (1, 140, 0, 1, 1)))
        arrays = ("program", (fun("f", (("r", "array"),), GIVE),), (("f", ()),))
        self.assertIsNone(wrong_call(arrays, (0, 2, 8, 0, 1)))
        with self.assertRaises(TooGreat):
            wrong_call(arrays, (0, 2, 8, 1, 1))
        # Promises are not looked at.
        promised = (*one[:2], (("f", ((0, 1, -19990),)),))
        with self.assertRaises(TooGreat):
            wrong_call(promised, (0, 20000, 0, 0, 1))

    def test_low_and_high_the_same(self):
        body = any_of(("let", "v", ("at", "r", ("num", 2)), ("claim", ("same", name("u"), name("v")), ("give", name("v")))), "u")
        program = (*program_of(body)[:2], (("a", ((0, 2, -3),)),))
        self.assertIsNone(wrong_call(program, (4, 4, 8, 8, 9)))
        self.assertEqual(broken_within(program, (0,), (4, 4, 2, 8, 9)), (((), ()),))
        self.assertEqual(broken_within(program, (0,), (4, 4, 4, 8, 9))[0], (
            ((1, 0, 0), (1, 2, 0), (2, 0, 0)), ((1, 0, 0), (1, 2, 0), (2, 0, 0), (3, 0, 0), (3, 2, 0)),
        ))

    def test_by_chance(self):
        found = 0
        for seed in range(200):
            maker = Maker(seed)
            program, numbers = maker.program(params=2, depth=4), maker.numbers()
            bounds = (-1, maker.chance.randint(-1, 1), maker.chance.randint(0, 2), maker.chance.randint(0, 1), maker.chance.randint(1, 60))
            if len(naive_runs.calls_within(program, bounds)) < 600:
                with self.subTest(seed):
                    told = wrong_call(program, bounds)
                    self.assertEqual(told, naive_runs.wrong_call(program, bounds))
                    self.assertEqual(broken_within(program, numbers, bounds), naive_runs.broken_within(program, numbers, bounds))
                    found += told is not None
        self.assertGreater(found, 20)


class Broken(unittest.TestCase):
    def test_of_pre_and_of_post(self):
        program = program_of(("give", name("x", -1)))
        told = broken(program, (-1, 0, 1), entry(1, (5, 5)), MANY)
        # Places 0, 1, 2 in pre, and 0 as the result.
        (pre, post), = candidates(program, (-1, 0, 1))
        values = (0, 1, 2, 0)
        self.assertEqual(told, ((tuple((i, j, c) for i, j, c in pre if values[i] > values[j] + c),
                                 tuple((i, j, c) for i, j, c in post if values[i] > values[j] + c)),))
        self.assertEqual(told[0][0], ((1, 0, -1), (1, 0, 0), (2, 0, -1), (2, 0, 0), (2, 0, 1), (2, 1, -1), (2, 1, 0)))

    def test_what_does_not_give_breaks_nothing_of_post(self):
        for body in (("never",), any_of(GIVE, "u"), ("claim", MOST, ("claim", MOST, GIVE))):
            told = broken(program_of(body), (0,), entry(1, ()), 2)
            self.assertEqual(told, ((((1, 0, 0), (1, 2, 0)), ()),))

    def test_places_as_they_were_handed_in(self):
        # x is given anew, the array is changed.
        body = ("let", "x", ("num", 50), ("put", "r", ZERO, ("num", 9), ("give", X)))
        told = broken(program_of(body), (0,), entry(-1, (3,)), MANY)
        self.assertEqual(told, ((((0, 1, 0), (2, 0, 0), (2, 1, 0)), ((0, 1, 0), (2, 0, 0), (2, 1, 0), (3, 0, 0), (3, 1, 0), (3, 2, 0))),))

    def test_all_activations(self):
        down = ("let", "u", ("call", "a", (name("x", -3), ("array", "r"))), ("give", name("u")))
        program = program_of(("if", ("most", X, ZERO), ("give", X), down))
        told = broken(program, (0,), entry(4, ()), MANY)
        self.assertEqual(told[0][0], ((0, 1, 0), (1, 0, 0), (1, 2, 0), (2, 1, 0)))
        self.assertIn((3, 0, 0), candidates(program, (0,))[0][1])
        self.assertNotIn((3, 0, 0), told[0][1])
        self.assertEqual(broken(program, (0,), entry(4, ()), 3)[0], (((1, 0, 0), (1, 2, 0)), ()))
        # The last step begins an activation, too.
        self.assertEqual(broken(program, (0,), entry(2, ()), 1)[0][0], ((1, 0, 0), (1, 2, 0)))
        self.assertEqual(broken(program, (0,), entry(2, ()), 2)[0][0], ((0, 1, 0), (1, 0, 0), (1, 2, 0), (2, 1, 0)))

    def test_no_numbers_and_what_is_not_called(self):
        self.assertEqual(broken(EXAMPLE, (), ("call", "g", ((1,),), ()), MANY), (((), ()), ((), ())))
        program = program_of(GIVE, ("never",))
        self.assertEqual(broken(program, (0,), entry(1, ()), MANY)[1], ((), ()))

    def test_by_chance(self):
        for seed in range(200):
            maker = Maker(seed)
            program, numbers = maker.program(), maker.numbers()
            calls = naive_runs.calls_within(program, (-2, 2, 1, 1, 50))
            for call in maker.chance.sample(calls, min(len(calls), 5)):
                most = maker.chance.choice((1, 3, 100))
                self.assertEqual(broken(program, numbers, call, most), Slow(program, call, most).go().broken(numbers))


class Stays(Unchanged):
    def test_nothing_is_changed_and_the_answers_stay(self):
        call = ("call", "g", ((4, 5),), ())
        self.assert_unchanged((
            (run, [EXAMPLE, call, 100]), (trail, [EXAMPLE, call, 100]), (broken, [EXAMPLE, (0,), call, 100]),
            (broken_within, [EXAMPLE, (0,), (0, 1, 2, 1, 50)]), (wrong_call, [LOST, (0, 1, 2, 1, 50)]),
            (check_call, [EXAMPLE, call]), (wrong_call, [EXAMPLE, (0, 1, 2, 1, 50)]),
        ), (tuple, type(None)))


if __name__ == "__main__":
    unittest.main()
