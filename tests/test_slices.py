"""s1 to s3 and u1: what is reached, the slice, joined functions and parts."""

import unittest

from claimfall.falling import is_let, strongest
from claimfall.programs import check_program, index_of
from claimfall.slices import callees, part_of, parts, reached, sliced
from tests import naive_more
from tests.asks import Unchanged
from tests.chance import Maker
from tests.samples import BOTH, DOWN, EXAMPLE, GIVE, HALVES, LOST, MOST, SAME, ZERO, claims, name, program_of

CALL = ("call", "a", (ZERO, ("array", "r")))


def call(word):
    return ("call", word, (name("x"), ("array", "r")))


def calling(*words):
    body = GIVE
    for word in words:
        body = ("let", "u", call(word), body)
    return body


def opened(program, *words):
    return (*program[:2], tuple((word, ()) for word in words))


class Callees(unittest.TestCase):
    def test_samples(self):
        for program, told in (
            (EXAMPLE, [(0,), (0,)]), (DOWN, [(1,), (0,)]), (HALVES, [(0,), (0,)]), (BOTH, [(), (0,)]), (LOST, [()]),
        ):
            self.assertEqual([callees(program, f) for f in range(len(program[1]))], told)

    def test_in_any_part_of_a_body(self):
        inner = calling("b")
        bodies = (
            inner, ("if", MOST, inner, GIVE), ("if", MOST, GIVE, inner), ("if", SAME, inner, GIVE), ("if", SAME, GIVE, inner),
            ("claim", MOST, inner), ("put", "r", ZERO, ZERO, inner), ("let", "v", ("any",), inner),
            ("let", "v", ("at", "r", ZERO), inner), ("let", "v", call("c"), inner), ("let", "v", name("x"), inner), claims(58, inner),
            ("if", MOST, ("if", MOST, ("never",), GIVE), ("if", SAME, GIVE, ("if", MOST, GIVE, inner))),
        )
        for body in bodies:
            program = program_of(body, GIVE, GIVE)
            check_program(program)
            self.assertEqual(callees(program, 0), (1, 2) if ("let", "v", call("c"), inner) == body else (1,))
            self.assertEqual(callees(program, 1), ())
            # An if whose condition can never be so is a part of the body, too.
            self.assertIn(1, reached(program))

    def test_ascending_and_once(self):
        program = program_of(calling("c", "b", "a", "c", "a", "b", "d", "b"), GIVE, calling("d", "a"), GIVE)
        self.assertEqual([callees(program, f) for f in range(4)], [(0, 1, 2, 3), (), (0, 3), ()])

    def test_a_name_that_is_a_let_as_well(self):
        program = program_of(("let", "b", name("x"), ("give", name("b"))), GIVE)
        self.assertEqual(callees(program, 0), ())

    def test_by_chance(self):
        for seed in range(150):
            program = Maker(seed).program(functions=6, depth=6)
            pairs = naive_more.calls(program)
            for f in range(len(program[1])):
                self.assertEqual(callees(program, f), tuple(sorted(g for h, g in pairs if h == f)))


class Slices(unittest.TestCase):
    def test_what_nothing_calls_is_not_reached(self):
        program = program_of(GIVE, calling("a"), calling("b"))
        self.assertEqual(reached(program), (0,))
        self.assertEqual(sliced(program), ("program", program[1][:1], (("a", ()),)))
        self.assertEqual(reached(opened(program, "b")), (0, 1))
        self.assertEqual(reached(opened(program, "c")), (0, 1, 2))

    def test_over_other_functions(self):
        program = program_of(calling("d"), GIVE, calling("b"), calling("c"), calling("e", "a"))
        self.assertEqual(reached(program), (0, 1, 2, 3))
        self.assertEqual(sliced(program)[1], program[1][:4])
        self.assertEqual(sliced(opened(program, "e")), opened(program, "e"))

    def test_the_order_of_functions_and_opens_stays(self):
        program = program_of(GIVE, calling("e"), GIVE, calling("b"), GIVE, GIVE)
        program = (*program[:2], (("f", ((0, 1, 3),)), ("d", ()), ("c", ((2, 1, 0), (0, 1, -1)))))
        told = sliced(program)
        check_program(told)
        self.assertEqual([function[1] for function in told[1]], ["b", "c", "d", "e", "f"])
        self.assertEqual(told[2], program[2])

    def test_by_chance(self):
        smaller = let = 0
        for seed in range(200):
            maker = Maker(seed)
            program, numbers = maker.program(functions=5), maker.numbers()
            with self.subTest(seed):
                self.assertEqual(reached(program), naive_more.reached(program))
                told = sliced(program)
                check_program(told)
                self.assertEqual(told[1], tuple(program[1][f] for f in reached(program)))
                self.assertEqual(told[2], program[2])
                kept, within = strongest(program, numbers), strongest(told, numbers)
                for at, f in enumerate(reached(program)):
                    for part in (0, 1):
                        self.assertLessEqual(set(kept[f][part]), set(within[at][part]))
                self.assertLessEqual(is_let(program, numbers), is_let(told, numbers))
                smaller += len(told[1]) < len(program[1])
                let += is_let(program, numbers) < is_let(told, numbers)
        self.assertGreater(smaller, 50)
        self.assertGreater(let, 0)

    def test_the_slice_can_have_more(self):
        program = program_of(GIVE, ("let", "u", ("call", "a", (("num", -5), ("array", "r"))), ("never",)))
        program = (*program[:2], (("a", ((0, 1, 0),)),))
        self.assertNotIn((0, 1, 0), strongest(program, (0,))[0][0])
        self.assertIn((0, 1, 0), strongest(sliced(program), (0,))[0][0])
        self.assertFalse(is_let(program, (0,)))
        self.assertTrue(is_let(sliced(program), (0,)))


class Parts(unittest.TestCase):
    def test_samples(self):
        for program, told in (
            (EXAMPLE, ((0, 1),)), (DOWN, ((0, 1),)), (LOST, ((0,),)), (program_of(GIVE, GIVE, GIVE), ((0,), (1,), (2,))),
            (program_of(calling("a"), GIVE), ((0,), (1,))),
        ):
            self.assertEqual(parts(program), told)

    def test_joined_over_a_third_one(self):
        # Both call c; both are called by c; one calls c, which calls the other.
        for bodies in (
            (calling("c"), calling("c"), GIVE), (GIVE, GIVE, calling("a", "b")), (calling("c"), GIVE, calling("b")),
        ):
            self.assertEqual(parts(program_of(*bodies)), ((0, 1, 2),))
        far = program_of(calling("h"), GIVE, calling("h"), calling("b"), GIVE, calling("e"), GIVE, GIVE)
        self.assertEqual(parts(far), ((0, 2, 7), (1, 3), (4, 5), (6,)))

    def test_ordered_by_the_first_ones(self):
        program = program_of(calling("d"), calling("c"), GIVE, GIVE, calling("b"))
        self.assertEqual(parts(program), ((0, 3), (1, 2, 4)))

    def test_the_program_of_a_part(self):
        program = program_of(calling("d"), calling("c"), GIVE, GIVE, calling("b"))
        program = (*program[:2], (("e", ((0, 1, 0),)), ("a", ()), ("c", ((0, 1, 2),))))
        first, second = [part_of(program, part) for part in parts(program)]
        self.assertEqual(first, ("program", (program[1][0], program[1][3]), (("a", ()),)))
        self.assertEqual(second[1], (program[1][1], program[1][2], program[1][4]))
        self.assertEqual(second[2], (program[2][0], program[2][2]))
        check_program(first)
        check_program(second)

    def test_a_part_without_an_open_function(self):
        program = program_of(GIVE, calling("c"), GIVE)
        self.assertEqual(parts(program), ((0,), (1, 2)))
        self.assertEqual(reached(program), (0,))
        self.assertEqual(part_of(program, (0,)), ("program", program[1][:1], program[2]))

    def test_by_chance(self):
        several = 0
        for seed in range(200):
            maker = Maker(seed)
            program, numbers = maker.program(functions=6, depth=4), maker.numbers()
            with self.subTest(seed):
                told = parts(program)
                self.assertEqual(told, naive_more.parts(program))
                several += len(told) > 1
                kept = strongest(program, numbers)
                opens = [index_of(program, word) for word, _ in program[2]]
                for part in told:
                    if any(f in part for f in opens):
                        alone = part_of(program, part)
                        check_program(alone)
                        self.assertEqual(strongest(alone, numbers), tuple(kept[f] for f in part))
        self.assertGreater(several, 60)


class Stays(Unchanged):
    def test_nothing_is_changed_and_the_answers_stay(self):
        self.assert_unchanged((
            (callees, [HALVES, 1]), (reached, [EXAMPLE]), (sliced, [EXAMPLE]), (parts, [BOTH]), (part_of, [BOTH, (0, 1)]),
        ), (tuple,))


if __name__ == "__main__":
    unittest.main()
