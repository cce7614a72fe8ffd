"""k2, k4 to k6, l4's first sentence, s4 to s6 and u1: the strongest kept assignment, and when a program is let."""

import itertools
import unittest

from claimfall.assignments import candidates, holds, is_kept
from claimfall.falling import is_let, strongest, strongest_within
from claimfall.paths import paths
from claimfall.programs import check_program
from tests import naive
from tests.asks import Unchanged
from tests.chance import Maker
from tests.samples import (
    BOTH, DOWN, EXAMPLE, EXAMPLE_KEPT, GIVE, HALVES, LOST, MOST, ZERO, fun, most_ways, name, program_of,
)

SEVEN = (-100, -2, -1, 0, 1, 2, 100)
X = name("x")
AGAIN = ("call", "a", (X, ("array", "r")))


def qualities(assignment):
    """All that an assignment has, as a set of (function, part, quality)."""
    return {(f, part, q) for f, pair in enumerate(assignment) for part in (0, 1) for q in pair[part]}


def joined(one, other):
    return tuple(
        tuple(tuple(sorted(set(part) | set(more))) for part, more in zip(pair, others))
        for pair, others in zip(one, other)
    )


class Strongest(unittest.TestCase):
    def test_the_example(self):
        self.assertEqual(strongest(EXAMPLE, (0,)), EXAMPLE_KEPT)
        self.assertEqual(strongest(EXAMPLE, ()), (((), ()), ((), ())))
        self.assertEqual(strongest(EXAMPLE, (-1,)), (((), ()), ((), ())))
        # The length is at least 0, so it is at least -1; i - 1 of the next call at least 0.
        more = strongest(EXAMPLE, (0, 1))
        self.assertEqual(more[1], (((0, 1, 0), (0, 1, 1)), ((0, 1, 0), (0, 1, 1), (0, 2, 0), (0, 2, 1), (1, 2, 0),
                                                           (1, 2, 1), (2, 1, 0), (2, 1, 1))))

    def test_two_that_call_one_another(self):
        self.assertEqual(strongest(DOWN, (0,)), (
            (((0, 1, 0),), ((0, 1, 0), (0, 2, 0))),
            (((0, 1, 0),), ((0, 1, 0), (0, 2, 0))),
        ))
        self.assertEqual(strongest(DOWN, (1,))[0], (((0, 1, 1),), ((0, 1, 1), (0, 2, 1), (2, 0, 1), (2, 1, 1))))

    def test_a_search_in_halves(self):
        pre, post = strongest(HALVES, (0,))[0]
        self.assertEqual(pre, ((0, 1, 0), (0, 2, 0), (0, 3, 0), (2, 1, 0), (2, 3, 0), (3, 1, 0)))
        self.assertEqual(set(post) - set(pre), {(0, 5, 0), (2, 5, 0), (5, 1, 0), (5, 3, 0)})

    def test_without_params(self):
        body = ("let", "u", ("any",), ("if", MOST, ("give", ("num", 3)), ("give", name("u"))))
        program = ("program", (fun("f", (), body),), (("f", ()),))
        self.assertEqual(strongest(program, SEVEN), (((), ((0, 1, -2), (0, 1, -1), (0, 1, 0), (0, 1, 1), (0, 1, 2),
                                                           (0, 1, 100), (1, 0, 100))),))
        program = ("program", (fun("f", (), ("give", ("num", 2))),), (("f", ()),))
        self.assertEqual(strongest(program, (-3, -2, 1, 2)), (((), ((0, 1, -2), (0, 1, 1), (0, 1, 2), (1, 0, 2))),))

    def test_what_nothing_calls_has_all(self):
        program = program_of(GIVE, ("let", "u", ("at", "r", X), ("give", name("u", 50))))
        self.assertEqual(strongest(program, (-1, 3))[1], candidates(program, (-1, 3))[1])
        # With the number 3 alone what stands in pre does not clash.
        self.assertEqual(strongest(program, (3,))[1][0], candidates(program, (3,))[1][0])
        self.assertNotIn((3, 0, 3), strongest(program, (3,))[1][1])

    def test_what_never_gives_has_all_of_post(self):
        for body in (("never",), ("let", "u", AGAIN, ("give", name("u", 1)))):
            program = program_of(body)
            self.assertEqual(strongest(program, SEVEN)[0][1], candidates(program, SEVEN)[0][1])
        some = program_of(("if", ("most", X, ("num", 5)), GIVE, ("let", "u", AGAIN, ("give", name("u")))))
        self.assertEqual(strongest(some, (0,))[0], ((((0, 2, 0),), ((0, 2, 0), (0, 3, 0), (3, 0, 0), (3, 2, 0)))))

    def test_promises_that_clash(self):
        program = (*program_of(("never",))[:2], (("a", ((0, 1, 0), (1, 0, -1))),))
        self.assertEqual(strongest(program, SEVEN), candidates(program, SEVEN))
        self.assertTrue(is_let(program, SEVEN))
        # Whether it is let hangs on whether its pre can tell of the clash.
        self.assertEqual([is_let(program, numbers) for numbers in ((), (0,), (1,), (-1,))], [False, False, False, True])

    def test_each_path_and_each_call_takes_its_part(self):
        less, more = ("give", name("x", -1)), ("give", name("x", 1))
        program = program_of(("if", ("same", X, ("len", "r", 0)), less, more))
        self.assertEqual([q for q in strongest(program, SEVEN)[0][1] if 3 in q[:2] and 1 in q[:2]],
                         [(1, 3, 1), (1, 3, 2), (1, 3, 100), (3, 1, 1), (3, 1, 2), (3, 1, 100)])
        call = ("call", "b", (("num", 1), ("array", "r")))
        other = ("call", "b", (("num", -2), ("array", "r")))
        program = program_of(("let", "u", call, ("let", "u", other, GIVE)), GIVE)
        self.assertEqual([q for q in strongest(program, SEVEN)[1][0] if 2 not in q[:2]],
                         [(0, 1, 2), (0, 1, 100), (1, 0, 1), (1, 0, 2), (1, 0, 100)])

    def test_what_goes_up_from_call_to_call_has_no_greatest(self):
        body = ("if", ("most", ("num", 1000), X), GIVE, ("let", "u", ("call", "a", (name("x", 1), ("array", "r"))), GIVE))
        program = (*program_of(body)[:2], (("a", ((0, 1, 0), (1, 0, 0))),))
        pre = strongest(program, SEVEN)[0][0]
        self.assertEqual([q for q in pre if 2 not in q[:2]], [(0, 1, 0), (0, 1, 1), (0, 1, 2), (0, 1, 100)])
        body = ("if", ("most", ("num", 99), X), GIVE, ("let", "u", ("call", "a", (name("x", 1), ("array", "r"))), GIVE))
        program = (*program_of(body)[:2], (("a", ((0, 1, 0), (1, 0, 0))),))
        self.assertIn((1, 0, 100), strongest(program, SEVEN)[0][0])

    def test_opens_take_part_each(self):
        promises = (((0, 1, 0),), ((0, 1, -2), (1, 2, 0)))
        program = (*program_of(GIVE, GIVE)[:2], (("b", promises[0]), ("a", promises[1])))
        told = strongest(program, (-2, 0))
        self.assertEqual(told[1][0], ((0, 1, 0), (0, 2, 0)))
        self.assertEqual(told[0][0], ((0, 1, -2), (0, 1, 0), (0, 2, -2), (0, 2, 0), (1, 2, 0)))

    def test_as_the_document_says(self):
        for seed in range(200):
            maker = Maker(seed)
            program, numbers = maker.program(), maker.numbers()
            with self.subTest(seed):
                told = strongest(program, numbers)
                self.assertEqual(told, naive.strongest_of(program, naive.all_candidates(program, numbers)))
                self.assertTrue(is_kept(program, told))


class AllAssignments(unittest.TestCase):
    """Looks at each assignment that there is."""

    PROGRAMS = (
        (("if", ("most", X, ZERO), GIVE, ("let", "u", ("call", "f", (name("x", -1),)), ("give", name("u")))), ()),
        (("let", "u", ("call", "f", (X,)), ("claim", ("most", name("u"), X), ("give", X))), ()),
        (("claim", ("same", X, ZERO), ("give", X)), ((0, 1, 0), (1, 0, 0))),
        (("if", ("most", X, ("num", -1)), ("never",), ("give", name("x", 1))), ((0, 1, -2),)),
    )

    def test_one_param_and_one_number(self):
        held = 0
        for (body, promises), number in itertools.product(self.PROGRAMS, (-1, 0)):
            program = ("program", (fun("f", (("x", "int"),), body),), (("f", promises),))
            every = candidates(program, (number,))
            kept = [assignment for assignment in self.parts_of(every) if is_kept(program, assignment)]
            with self.subTest((body, number)):
                self.assertEqual(set(kept), {part for part in self.parts_of(every) if naive.keeps(program, part)})
                self.look_at(program, number, kept)
            held += is_let(program, (number,))
        self.assertIn(held, range(2, 8))

    def parts_of(self, every):
        (pre, post), = every
        for pick in itertools.product((False, True), repeat=len(pre) + len(post)):
            yield ((tuple(itertools.compress(pre, pick)), tuple(itertools.compress(post, pick[len(pre):]))),)

    def look_at(self, program, number, kept):
        told = strongest(program, (number,))
        self.assertIn(told, kept)
        for assignment in kept:
            self.assertLessEqual(qualities(assignment), qualities(told))
        for one, other in itertools.product(kept[::7], kept):
            self.assertIn(joined(one, other), kept)
        self.assertEqual(is_let(program, (number,)), any(holds(program, assignment) for assignment in kept))
        for whole in self.parts_of(candidates(program, (number,))):
            within = [assignment for assignment in kept if qualities(assignment) <= qualities(whole)]
            self.assertEqual(strongest_within(program, whole), max(within, key=lambda part: len(qualities(part))))


class Within(unittest.TestCase):
    def test_the_example(self):
        self.assertEqual(strongest_within(EXAMPLE, EXAMPLE_KEPT), EXAMPLE_KEPT)
        self.assertEqual(strongest_within(EXAMPLE, candidates(EXAMPLE, (0,))), EXAMPLE_KEPT)
        empty = (((), ()), ((), ()))
        self.assertEqual(strongest_within(EXAMPLE, empty), empty)

    def test_what_hangs_on_what_is_left_out(self):
        (pre, post), whole = EXAMPLE_KEPT
        without = ((pre, post[:3] + post[4:]), whole)
        # Of g's result at least its length is no more known, once f's result at least the length is not.
        told = strongest_within(EXAMPLE, without)
        self.assertEqual(told, ((pre, post[:3] + post[4:]), (whole[0], ((0, 1, 0), (0, 2, 0), (2, 1, 0)))))
        # Without (0, 3, 0) of f it still follows from that the length is at most the result.
        self.assertIn((0, 2, 0), strongest_within(EXAMPLE, ((pre, post[:2] + post[3:]), whole))[1][1])

    def test_an_assignment_with_a_weaker_quality_alone(self):
        program = (*program_of(GIVE)[:2], (("a", ((0, 1, -5),)),))
        for c, stays in ((-6, False), (-5, True), (-4, True), (10 ** 40, True), (-10 ** 40, False)):
            pre = ((0, 1, c),)
            self.assertEqual(strongest_within(program, ((pre, ()),)), (((pre if stays else ()), ()),))

    def test_numbers_of_any_size(self):
        great = 10 ** 5000
        program = program_of(("give", name("x", great)))
        post = ((3, 1, great - 1), (3, 1, great), (3, 1, great + 7))
        self.assertEqual(strongest_within(program, (((), post),)), (((), post[1:]),))

    def test_as_the_document_says(self):
        for seed in range(200):
            maker = Maker(seed)
            program = maker.program()
            part = maker.part_of(program, maker.numbers(), maker.chance.random())
            with self.subTest(seed):
                told = strongest_within(program, part)
                self.assertEqual(told, naive.strongest_of(program, part))
                self.assertTrue(is_kept(program, told))
                self.assertEqual(strongest_within(program, told), told)


class Let(unittest.TestCase):
    def test_the_samples(self):
        rows = (
            (EXAMPLE, (0,), True), (EXAMPLE, (-1,), False), (EXAMPLE, (), False), (EXAMPLE, SEVEN, True),
            (BOTH, (-1,), False), (BOTH, (0,), False), (BOTH, (-1, 0), True), (BOTH, (-2, 0, 1), False), (BOTH, SEVEN, True),
            (DOWN, (0,), True), (DOWN, (1,), False), (HALVES, (0,), True), (HALVES, (-1, 1), False), (HALVES, SEVEN, True),
            (LOST, (), False), (LOST, (0,), False), (LOST, SEVEN, False),
        )
        for at, (program, numbers, let) in enumerate(rows):
            with self.subTest(at):
                check_program(program)
                self.assertIs(is_let(program, numbers), let)

    def test_without_numbers(self):
        for body, let in (
            (GIVE, True), (("never",), False), (("claim", MOST, GIVE), True), (("claim", ("most", ZERO, X), GIVE), False),
            (("claim", ("most", ZERO, ("len", "r", 0)), GIVE), True), (("if", MOST, GIVE, ("never",)), True),
            (("let", "m", ("middle", ZERO, ("len", "r", 0)), ("claim", ("most", ZERO, name("m")), GIVE)), True),
            (("let", "m", ("middle", X, ("len", "r", 0)), GIVE), False),
            (("let", "u", ("at", "r", ("num", 0)), GIVE), False),
        ):
            with self.subTest(body):
                self.assertIs(is_let(program_of(body), ()), let)

    def test_the_greatest_and_the_least_number(self):
        for c in (-100, 100):
            body = ("let", "u", ("call", "b", (X, ("array", "r"))), GIVE)
            program = program_of(body, ("claim", ("most", ("num", -c), X), GIVE))
            for promised, let in ((c - 1, True), (c, True), (c + 1, False)):
                program = (*program[:2], (("a", ((0, 1, promised),)),))
                self.assertIs(is_let(program, (c,)), let)
                self.assertIs(is_let(program, SEVEN), let)
                self.assertIs(is_let(program, SEVEN[1:-1]), False)

    def test_exactly_if_some_kept_assignment_holds(self):
        for seed in range(150):
            maker = Maker(seed)
            program, numbers = maker.program(), maker.numbers()
            with self.subTest(seed):
                let = is_let(program, numbers)
                self.assertIs(let, naive.holds_at_looks(program, strongest(program, numbers)))
                if not let:
                    for _ in range(5):
                        part = strongest_within(program, maker.part_of(program, numbers))
                        self.assertFalse(holds(program, part))


class More(unittest.TestCase):
    def test_numbers(self):
        grown = 0
        for seed in range(120):
            maker = Maker(seed)
            program = maker.program()
            numbers = tuple(sorted(maker.chance.sample(SEVEN[1:-1], maker.chance.randint(1, 4))))
            fewer = tuple(sorted(maker.chance.sample(numbers, maker.chance.randint(0, len(numbers) - 1))))
            with self.subTest(seed):
                self.assertLessEqual(qualities(strongest(program, fewer)), qualities(strongest(program, numbers)))
                self.assertLessEqual(is_let(program, fewer), is_let(program, numbers))
                grown += is_let(program, fewer) < is_let(program, numbers)
        self.assertGreater(grown, 3)

    def test_promises(self):
        grown = 0
        for seed in range(200):
            maker = Maker(seed)
            program, numbers = maker.program(), maker.numbers()
            opens = list(program[2])
            at = maker.chance.randrange(len(opens))
            function = program[1][naive.number_of(program, opens[at][0])]
            opens[at] = (opens[at][0], (*maker.promises(program[1].index(function)), *opens[at][1]))
            more = (*program[:2], tuple(opens))
            with self.subTest(seed):
                self.assertLessEqual(qualities(strongest(program, numbers)), qualities(strongest(more, numbers)))
                self.assertLessEqual(is_let(program, numbers), is_let(more, numbers))
                grown += strongest(program, numbers) != strongest(more, numbers)
        self.assertGreater(grown, 10)

    def test_two_kept_assignments_taken_together(self):
        for seed in range(120):
            maker = Maker(seed)
            program, numbers = maker.program(), maker.numbers()
            one, other = [strongest_within(program, maker.part_of(program, numbers)) for _ in range(2)]
            with self.subTest(seed):
                self.assertTrue(is_kept(program, joined(one, other)))


class Same(unittest.TestCase):
    """What changes nothing, or nothing for the worse."""

    def test_names_say_nothing(self):
        for seed in range(80):
            maker = Maker(seed)
            program, numbers = maker.program(), maker.numbers()
            other = renamed(program)
            with self.subTest(seed):
                check_program(other)
                self.assertEqual(strongest(other, numbers), strongest(program, numbers))
                self.assertIs(is_let(other, numbers), is_let(program, numbers))
                names = {before[1]: after[1] for before, after in zip(program[1], other[1])}
                for f in range(len(program[1])):
                    self.assertEqual(paths(other, f), renamed_calls(paths(program, f), names))

    def test_one_claim_more(self):
        for seed in range(150):
            maker = Maker(seed)
            program, numbers = maker.program(), maker.numbers()
            more = with_one_body_changed(maker, program, claimed)
            if more is not None:
                with self.subTest(seed):
                    check_program(more)
                    self.assertLessEqual(qualities(strongest(program, numbers)), qualities(strongest(more, numbers)))

    def test_an_if_turned_round(self):
        turned = 0
        for seed in range(200):
            maker = Maker(seed)
            program, numbers = maker.program(depth=6), maker.numbers()
            other = with_one_body_changed(maker, program, turned_round)
            if other is not None and other != program:
                turned += 1
                with self.subTest(seed):
                    check_program(other)
                    self.assertEqual(strongest(other, numbers), strongest(program, numbers))
                    self.assertIs(is_let(other, numbers), is_let(program, numbers))
        self.assertGreater(turned, 30)


def renamed(program):
    """The program with other names; those of functions, params and lets are told apart by what they stand for."""
    def other(thing):
        if isinstance(thing, tuple) and thing and thing[0] == "call":
            return ("call", thing[1] + "fun", tuple(other(part) for part in thing[2]))
        if isinstance(thing, tuple) and thing and thing[0] in ("name", "len", "array", "let", "at", "put"):
            return (thing[0], "q" + thing[1], *[other(part) for part in thing[2:]])
        return tuple(other(part) for part in thing) if isinstance(thing, tuple) else thing

    functions = tuple(
        ("fun", word + "fun", tuple(("q" + x, kind) for x, kind in params), other(body))
        for _, word, params, body in program[1]
    )
    return ("program", functions, tuple((word + "fun", promises) for word, promises in program[2]))


def renamed_calls(told, names):
    return tuple(
        tuple((item[0], names[item[1]], *item[2:]) if item[0] == "call" else item for item in items) for items in told
    )


def with_one_body_changed(maker, program, change):
    """The program with a change at the first body of a function where there is one for it, or None."""
    functions = list(program[1])
    at = maker.chance.randrange(len(functions))
    _, word, params, body = functions[at]
    other = at_a_body(maker, body, *maker.known(params), change)
    if other is None:
        return None
    functions[at] = ("fun", word, params, other)
    return ("program", tuple(functions), program[2])


def at_a_body(maker, body, ints, arrays, change):
    other = change(maker, body, ints, arrays) if maker.chance.random() < 0.6 else None
    if other is not None:
        return other
    if body[0] == "let" and body[1] not in ints:
        ints = ints + (body[1],)
    for at, part in enumerate(body):
        if isinstance(part, tuple) and part[0] in ("give", "let", "if", "claim", "put", "never"):
            inner = at_a_body(maker, part, ints, arrays, change)
            if inner is not None:
                return (*body[:at], inner, *body[at + 1:])
    return None


def claimed(maker, body, ints, arrays):
    return ("claim", maker.condition(ints, arrays), body)


def turned_round(maker, body, ints, arrays):
    if body[0] != "if" or body[1][0] != "most":
        return None
    _, (_, s, t), first, second = body
    return ("if", ("most", t, (*s[:-1], s[-1] - 1)), second, first)


class Great(unittest.TestCase):
    def test_two_hundred_paths_seven_numbers_five_params(self):
        params = tuple((word, "int") for word in "vwxyz")
        call = ("call", "f", (name("w", 1), name("v", -1), name("y"), name("x"), name("z", -2)))
        tree = most_ways(200)

        def behind(body):
            if body[0] == "if":
                return (*body[:2], behind(body[2]), behind(body[3]))
            return ("let", "u", call, ("give", name("u", 1)))

        body = ("if", ("most", name("v"), name("w")), ("give", name("z")), behind(("if", MOST, GIVE, tree[2])))
        program = ("program", (fun("f", params, body),), (("f", ((0, 1, 0),)),))
        check_program(program)
        told = strongest(program, SEVEN)
        self.assertTrue(is_kept(program, told))
        self.assertIn((3, 4, 100), candidates(program, SEVEN)[0][0])
        self.assertNotIn((3, 4, 100), told[0][0])

    def test_eight_functions_in_a_row_fall_one_behind_another(self):
        words = "abcdefgh"
        functions = []
        for at, word in enumerate(words):
            call = ("call", words[(at + 1) % 8], (name("x", 1), ("array", "r")))
            body = ("if", ("most", X, ("num", 500)), ("let", "u", call, ("give", name("u"))), ("give", X))
            functions.append(fun(word, (("x", "int"), ("r", "array")), body))
        program = ("program", tuple(functions), (("a", ((0, 1, -3),)),))
        for at, (pre, post) in enumerate(strongest(program, SEVEN)):
            self.assertEqual([q for q in pre if 2 not in q[:2]], [(0, 1, c) for c in SEVEN if c >= -3 - at])
            self.assertIn((0, 3, -100), post)


class Stays(Unchanged):
    def test_nothing_is_changed_and_the_answers_stay(self):
        self.assert_unchanged((
            (strongest, [HALVES, (-1, 0)]), (strongest_within, [EXAMPLE, EXAMPLE_KEPT]), (is_let, [BOTH, (-1, 0)]),
        ), (tuple, bool))

    def test_only_tuples_and_integers(self):
        def look_at(thing):
            self.assertIn(type(thing), (tuple, int))
            if isinstance(thing, tuple):
                for part in thing:
                    look_at(part)

        for program in (EXAMPLE, BOTH, LOST, HALVES, DOWN):
            look_at(strongest(program, (-1, 0)))


if __name__ == "__main__":
    unittest.main()
