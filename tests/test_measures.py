"""m1, m3 and u1: rings, ranks that descend, and the first of them."""

import itertools
import unittest

from claimfall.assignments import candidates
from claimfall.errors import TooGreat
from claimfall.falling import strongest
from claimfall.measures import descends, rank_of, rings
from claimfall.programs import check_program
from tests import naive_more
from tests.asks import Unchanged
from tests.chance import Maker
from tests.samples import BOTH, DOWN, EXAMPLE, GIVE, HALVES, LOST, ZERO, fun, name, program_of

X, Y = name("x"), name("y")


def empty(program):
    return tuple(((), ()) for _ in program[1])


def ring_of(many, params, step=-1):
    """Functions a, b, .. in a ring, each handing on its params but the first one with a step, while it is above 0."""
    words = "abcdefgh"[:many]
    functions = []
    for at, word in enumerate(words):
        terms = (name(params[0][0], step), *[name(x) if kind == "int" else ("array", x) for x, kind in params[1:]])
        call = ("let", "u", ("call", words[(at + 1) % many], terms), ("give", name("u")))
        functions.append(fun(word, params, ("if", ("most", name(params[0][0]), ZERO), GIVE, call)))
    return ("program", tuple(functions), ((words[0], ()),))


def itself(body, params=(("x", "int"), ("y", "int")), promises=()):
    return ("program", (fun("f", params, body),), (("f", promises),))


def again(*terms):
    return ("let", "u", ("call", "f", terms), ("give", name("u")))


class Rings(unittest.TestCase):
    def test_samples(self):
        for program, told in (
            (EXAMPLE, ((0,),)), (DOWN, ((0, 1),)), (HALVES, ((0,),)), (BOTH, ()), (LOST, ()), (program_of(GIVE), ()),
        ):
            self.assertEqual(rings(program), told)

    def test_sizes(self):
        for many in range(1, 9):
            self.assertEqual(rings(ring_of(many, (("x", "int"),))), (tuple(range(many)),))

    def test_two_rings_and_functions_in_none(self):
        def calling(*words):
            body = GIVE
            for word in words:
                body = ("let", "u", ("call", word, (X, ("array", "r"))), body)
            return body

        # a calls all of them; b, e and g call one another in a ring; f itself; c and d one another; h nothing.
        program = program_of(calling("b", "c", "f"), calling("e"), calling("d"), calling("c", "h"), calling("g"),
                             calling("f", "b"), calling("b", "c"), GIVE)
        self.assertEqual(rings(program), ((1, 4, 6), (2, 3), (5,)))
        self.assertEqual(rings(program), naive_more.rings(program))

    def test_by_chance(self):
        seen = {}
        for seed in range(200):
            program = Maker(seed).program(functions=6)
            with self.subTest(seed):
                told = rings(program)
                self.assertEqual(told, naive_more.rings(program))
                seen[len(told)] = True
                self.assertEqual(told, tuple(sorted(told)))
        self.assertTrue({0, 1, 2} <= set(seen))


class Descends(unittest.TestCase):
    def test_by_one(self):
        program = itself(("if", ("most", X, Y), GIVE, again(name("x", -1), Y)))
        # Behind x above y: x - y is at least 0 and becomes less; x itself does not stay above 0.
        right = [(1, 2)]
        for pair in itertools.product(range(3), repeat=2):
            self.assertIs(descends(program, empty(program), (pair,)), pair in right)
        promised = itself(("if", ("most", X, Y), GIVE, again(name("x", -1), Y)), promises=((0, 2, 0),))
        kept = strongest(promised, (0,))
        self.assertTrue(descends(promised, kept, ((1, 0),)))
        self.assertFalse(descends(promised, empty(promised), ((1, 0),)))

    def test_nought_is_at_most_the_measure(self):
        # x above some number: the measure x is at least 0 exactly if this number is at least -1.
        for c, right in ((-3, False), (-2, False), (-1, True), (0, True), (5, True)):
            program = itself(("if", ("most", X, ("num", c)), GIVE, again(name("x", -1), Y)))
            self.assertIs(descends(program, empty(program), ((1, 0),)), right)

    def test_the_measure_becomes_less(self):
        for c, right in ((-7, True), (-1, True), (0, False), (1, False)):
            program = itself(("if", ("most", X, ("num", 9)), GIVE, again(name("x", c), Y)))
            self.assertIs(descends(program, empty(program), ((1, 0),)), right)
            # Place 0 less y: y goes up.
            program = itself(("if", ("most", ZERO, Y), GIVE, again(X, name("y", -c))))
            self.assertIs(descends(program, empty(program), ((0, 2),)), right)

    def test_a_and_b_of_which_one_is_above_nought(self):
        guard = ("most", X, Y)
        for a, b, right in ((3, 4, True), (-4, -3, True), (3, 3, False), (-3, -4, False), (-1, 0, True), (0, 1, True),
                            (5, 5, False), (-5, -5, False), (1, 2, True), (0, 0, False), (-2, -1, True), (2, 1, False)):
            # x becomes x + a, y becomes y + b: x - y becomes less exactly if a is less than b.
            program = itself(("if", guard, GIVE, again(name("x", a), name("y", b))))
            self.assertIs(descends(program, empty(program), ((1, 2),)), right, (a, b))

    def test_by_way_of_facts(self):
        # The half is at least low and at most high less 1, so both calls of a search in halves go down.
        kept = strongest(HALVES, (0,))
        self.assertTrue(descends(HALVES, kept, ((3, 2), (0, 0))))
        for pair in itertools.product(range(5), repeat=2):
            self.assertIs(descends(HALVES, kept, (pair, (0, 0))), pair == (3, 2))

    def test_by_what_is_told_of_results(self):
        functions = (
            fun("f", (("x", "int"),), ("if", ("most", X, ZERO), GIVE,
                                       ("let", "v", ("call", "g", (X,)), again(name("v"))))),
            fun("g", (("x", "int"),), ("give", name("x", -1))),
        )
        program = ("program", functions, (("f", ()),))
        self.assertTrue(descends(program, strongest(program, (-1, 0)), ((1, 0), (0, 0))))
        self.assertFalse(descends(program, strongest(program, (0,)), ((1, 0), (0, 0))))
        self.assertFalse(descends(program, empty(program), ((1, 0), (0, 0))))
        self.assertTrue(descends(program, (((), ()), ((), ((2, 1, -1),))), ((1, 0), (0, 0))))

    def test_facts_behind_the_call_are_none_ahead_of_it(self):
        guarded = ("let", "u", ("call", "f", (name("x", -1), Y)), ("claim", ("most", ZERO, X), ("give", name("u"))))
        self.assertFalse(descends(itself(guarded), empty(itself(guarded)), ((1, 0),)))
        ahead = ("claim", ("most", ZERO, X), again(name("x", -1), Y))
        self.assertTrue(descends(itself(ahead), empty(itself(ahead)), ((1, 0),)))
        # Of two calls each has to go down; what is told of the first one's result is a fact at the second one.
        twice = ("claim", ("most", ZERO, X), ("let", "u", ("call", "f", (name("x", -1), Y)), again(name("u", -1), Y)))
        self.assertFalse(descends(itself(twice), empty(itself(twice)), ((1, 0),)))
        self.assertTrue(descends(itself(twice), (((), ((3, 1, 0),)),), ((1, 0),)))

    def test_what_follows_from_a_clash(self):
        body = ("if", ("most", X, ("num", 3)), ("if", ("most", X, ("num", 4)), GIVE, again(name("x", 5), Y)), GIVE)
        program = itself(body)
        for pair in itertools.product(range(3), repeat=2):
            self.assertTrue(descends(program, empty(program), (pair,)))
        self.assertEqual(rank_of(program, (0,)), ((0, 0),))
        up = itself(again(name("x", 1), Y))
        self.assertFalse(descends(up, empty(up), ((1, 0),)))
        self.assertTrue(descends(up, ((((0, 1, 0), (1, 0, -1)), ()),), ((1, 0),)))

    def test_calls_out_of_the_ring_do_not_matter(self):
        kept = strongest(EXAMPLE, (0,))
        # The second function calls the first one, but is in no ring: its pair says nothing.
        for pair in itertools.product(range(2), repeat=2):
            self.assertTrue(descends(EXAMPLE, kept, ((1, 2), pair)))
            self.assertFalse(descends(EXAMPLE, kept, ((2, 1), pair)))
        self.assertTrue(descends(BOTH, empty(BOTH), ((2, 1), (1, 1))))

    def test_arrays_by_their_lengths(self):
        params = (("r", "array"), ("s", "array"))
        body = ("if", ("most", ("len", "r", 0), ("len", "s", 0)), GIVE,
                ("let", "u", ("call", "f", (("array", "s"), ("array", "s"))), GIVE))
        program = itself(body, params)
        self.assertTrue(descends(program, empty(program), ((1, 2),)))
        self.assertTrue(descends(program, empty(program), ((1, 0),)))
        self.assertFalse(descends(program, empty(program), ((2, 0),)))

    def test_by_chance(self):
        seen = {False: 0, True: 0}
        for seed in range(300):
            maker = Maker(seed)
            program = maker.program()
            assignment = maker.part_of(program, maker.numbers(), 0.3)
            if rings(program):
                for _ in range(6):
                    rank = tuple(maker.chance.choice(naive_more.pairs_of(program, f)) for f in range(len(program[1])))
                    with self.subTest(seed):
                        told = descends(program, assignment, rank)
                        self.assertIs(told, naive_more.descends(program, assignment, rank))
                        seen[told] += 1
        self.assertGreater(min(seen.values()), 40)


class RankOf(unittest.TestCase):
    def test_samples(self):
        self.assertEqual(rank_of(EXAMPLE, (0,)), ((1, 2), (0, 0)))
        self.assertEqual(rank_of(HALVES, (0,)), ((3, 2), (0, 0)))
        self.assertEqual(rank_of(DOWN, (0,)), ((1, 0), (1, 0)))
        self.assertEqual(rank_of(BOTH, (0,)), ((0, 0), (0, 0)))
        self.assertEqual(rank_of(LOST, ()), ((0, 0),))

    def test_the_first_one(self):
        # Both x and y go down, and x - y does, too.
        body = ("if", ("most", X, ZERO), GIVE, ("if", ("most", Y, ZERO), GIVE, again(name("x", -2), name("y", -1))))
        self.assertEqual(rank_of(itself(body), (0,)), ((1, 0),))
        body = ("if", ("most", X, ZERO), GIVE, ("if", ("most", Y, ZERO), GIVE, again(name("x", 2), name("y", -1))))
        self.assertEqual(rank_of(itself(body), (0,)), ((2, 0),))
        body = ("if", ("most", ("num", 0), X), GIVE, ("if", ("most", ZERO, Y), GIVE, again(name("x", 2), name("y", 1))))
        self.assertEqual(rank_of(itself(body), (0,)), ((0, 1),))

    def test_two_places_alike(self):
        # Place i less place i is 0 and becomes no less, but for a call that never comes.
        self.assertEqual(rank_of(itself(("claim", ("most", ("num", 1), ZERO), again(X, Y))), ()), ((0, 0),))
        # In a ring of two with one call that never comes, from nought to x below 0.
        functions = (
            fun("f", (("x", "int"),), ("if", ("most", ("num", -1), X), GIVE, ("let", "u", ("call", "g", (X,)), GIVE))),
            fun("g", (("x", "int"),), ("if", ("most", ("num", 1), ZERO), ("let", "u", ("call", "f", (X,)), GIVE), GIVE)),
        )
        program = ("program", functions, (("f", ()),))
        self.assertEqual(rank_of(program, ()), ((0, 0), (1, 0)))
        self.assertEqual(rank_of(program, ()), naive_more.rank_of(program, ()))

    def test_none(self):
        self.assertIsNone(rank_of(itself(again(X, Y)), (0,)))
        self.assertIsNone(rank_of(itself(("if", ("most", X, ZERO), GIVE, again(name("x", 1), Y))), (-1, 0, 1)))
        # One of two rings has none.
        good = fun("f", (("x", "int"),), ("if", ("most", X, ZERO), GIVE, again(name("x", -1))))
        bad = fun("g", (("x", "int"),), ("let", "u", ("call", "g", (X,)), GIVE))
        self.assertEqual(rank_of(("program", (good,), (("f", ()),)), ()), ((1, 0),))
        for functions in ((good, bad), (bad, good)):
            self.assertIsNone(rank_of(("program", functions, (("f", ()),)), ()))

    def test_rings_of_one_of_two_of_three_and_of_more(self):
        for many in range(1, 8):
            self.assertEqual(rank_of(ring_of(many, (("x", "int"),)), ()), ((1, 0),) * many)
        for many in (2, 3):
            self.assertEqual(rank_of(ring_of(many, (("x", "int"), ("r", "array"))), (0,)), ((1, 0),) * many)
            self.assertIsNone(rank_of(ring_of(many, (("x", "int"),), 0), ()))

    def test_a_call_that_does_not_go_down(self):
        # From even to odd x stays, from odd to even it goes down by two: 2 x + 1 would do, but x is no measure.
        functions = (
            fun("even", (("x", "int"),), ("if", ("most", X, ZERO), GIVE, ("let", "u", ("call", "odd", (X,)), GIVE))),
            fun("odd", (("x", "int"),), ("if", ("most", X, ZERO), GIVE, ("let", "u", ("call", "even", (name("x", -2),)), GIVE))),
        )
        self.assertIsNone(rank_of(("program", functions, (("odd", ()),)), (0,)))

    def test_two_rings(self):
        # Of each ring the first one, whatever there is in the other one.
        one = fun("f", (("x", "int"), ("y", "int")), ("if", ("most", Y, ZERO), GIVE, again(X, name("y", -1))))
        two = fun("g", (("x", "int"),), ("if", ("most", ZERO, X), GIVE, ("let", "u", ("call", "g", (name("x", 1),)), GIVE)))
        three = fun("h", (), ("let", "u", ("call", "g", (ZERO,)), ("let", "u", ("call", "f", (ZERO, ZERO)), GIVE)))
        for functions, rank in (((one, two, three), ((2, 0), (0, 1), (0, 0))), ((three, two, one), ((0, 0), (0, 1), (2, 0)))):
            program = ("program", functions, (("h", ()),))
            check_program(program)
            self.assertEqual(rank_of(program, ()), rank)

    def test_too_many_rows(self):
        # 4 functions with 2 params: 9 ** 4 rows; with 2 and a 5th one 9 ** 5.
        two = (("x", "int"), ("y", "int"))
        self.assertEqual(rank_of(ring_of(4, two), ()), ((1, 0),) * 4)
        with self.assertRaises(TooGreat):
            rank_of(ring_of(5, two), ())
        self.assertEqual(rank_of(ring_of(7, (("x", "int"),)), ()), ((1, 0),) * 7)
        with self.assertRaises(TooGreat):
            rank_of(ring_of(8, (("x", "int"),)), ())
        five = tuple((word, "int") for word in "vwxyz")
        self.assertEqual(rank_of(ring_of(2, five), ()), ((1, 0),) * 2)
        with self.assertRaises(TooGreat):
            rank_of(ring_of(3, five), ())

    def test_too_many_rows_in_the_last_ring_ahead_of_all_looking(self):
        # The first ring has no rank, the second one too many rows.
        bad = fun("i", (("x", "int"),), ("let", "u", ("call", "i", (X,)), GIVE))
        _, functions, opens = ring_of(5, (("x", "int"), ("y", "int")))
        with self.assertRaises(TooGreat):
            rank_of(("program", (bad, *functions), opens), (0,))
        # As many functions in no ring, or in several ones, are not too many.
        alone = ("program", (bad, *[(*function[:3], GIVE) for function in functions]), opens)
        self.assertIsNone(rank_of(alone, (0,)))

    def test_by_chance(self):
        found = {}
        for seed in range(400):
            maker = Maker(seed)
            program, numbers = maker.program(params=2), maker.numbers()
            if rings(program):
                with self.subTest(seed):
                    told = rank_of(program, numbers)
                    self.assertEqual(told, naive_more.rank_of(program, numbers))
                    found[told] = True
                    if told is not None:
                        self.assertTrue(descends(program, strongest(program, numbers), told))
        self.assertIn(None, found)
        self.assertGreater(len(found), 6)


class Stays(Unchanged):
    def test_nothing_is_changed_and_the_answers_stay(self):
        self.assert_unchanged((
            (rings, [HALVES]), (descends, [EXAMPLE, candidates(EXAMPLE, (0,)), ((1, 2), (0, 0))]), (rank_of, [HALVES, (0,)]),
        ), (tuple, bool))


if __name__ == "__main__":
    unittest.main()
