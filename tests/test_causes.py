"""l6 and u1: causes, and what is one."""

import unittest

from claimfall.assignments import candidates
from claimfall.causes import cause, judge_cause
from claimfall.errors import BadState
from claimfall.falling import strongest
from claimfall.papers import paper
from tests import naive, naive_more
from tests.asks import Unchanged
from tests.chance import Maker
from tests.samples import (
    BOTH, DEEP, DOWN, EXAMPLE, EXAMPLE_KEPT, GIVE, HALVES, JUNK, LOST, name, program_of,
)
from tests.test_papers import others, places_in, put_in

SEVEN = (-100, -2, -1, 0, 1, 2, 100)
PARTS = ("pre", "post")
X = name("x")


def is_cause(program, numbers, thing):
    """What l6 says: a refused paper's falls, at least one."""
    if type(thing) is not tuple or len(thing) != 2 or type(thing[0]) is not str or thing[0] != "cause" or thing[1] == ():
        return False
    return falls_are_right(program, numbers, thing[1])


def falls_are_right(program, numbers, falls):
    left = [[list(pre), list(post)] for pre, post in naive.all_candidates(program, numbers)]
    if type(falls) is not tuple:
        return False
    for fall in falls:
        if not naive.are(fall, 7) or type(fall[0]) is not str or fall[0] != "fall":
            return False
        _, f, part, quality, path, item, values = fall
        if type(f) is not int or not 0 <= f < len(left) or type(part) is not str or part not in PARTS:
            return False
        part = PARTS.index(part)
        if not naive.is_one_of(quality, left[f][part]) or not naive.falls_there(program, left, f, part, quality, path, item, values):
            return False
        left[f][part].remove(quality)
    return True


class Asks(unittest.TestCase):
    def assert_cause(self, program, numbers, f, part, quality):
        told = cause(program, numbers, f, part, quality)
        word, falls = told
        self.assertEqual(word, "cause")
        self.assertEqual(falls[-1][:4], ("fall", f, part, quality))
        self.assertIs(judge_cause(program, numbers, told), True)
        self.assertTrue(is_cause(program, numbers, told))
        for at in range(len(falls) - 1):
            self.assertFalse(naive_more.can_be_left_out(program, numbers, falls, at), at)
        return falls

    def gone(self, program, numbers):
        kept = strongest(program, numbers)
        return [
            (f, PARTS[part], quality) for f, part, quality in naive_more.triples(candidates(program, numbers))
            if quality not in kept[f][part]
        ]


class Causes(Asks):
    def test_samples(self):
        for program, numbers in ((EXAMPLE, (0,)), (EXAMPLE, (-1,)), (BOTH, (-1, 0)), (DOWN, (0,)), (LOST, (-1, 0, 1)), (DOWN, (1,))):
            gone = self.gone(program, numbers)
            self.assertGreater(len(gone), 1)
            for f, part, quality in gone:
                self.assert_cause(program, numbers, f, part, quality)

    def test_a_program_that_is_let(self):
        # x at most 0 of f falls as it is called with x + 1; the length at most x as it begins with x at 0.
        for quality in ((2, 0, 0), (1, 2, 0), (1, 0, 0)):
            falls = self.assert_cause(EXAMPLE, (0,), 0, "pre", quality)
            self.assertLessEqual(len(falls), 6)
        with self.assertRaises(BadState):
            cause(EXAMPLE, (0,), 0, "pre", (2, 1, 0))

    def test_the_only_fall_is_that_of_the_quality(self):
        for f, part, quality in ((0, "pre", (0, 1, -1)), (0, "pre", (1, 0, 0)), (0, "pre", (0, 1, 0))):
            falls = self.assert_cause(LOST, (-1, 0, 1), f, part, quality)
            self.assertEqual([fall[1:6] for fall in falls], [(f, part, quality, (), -1)])
        # At a give, whatever stands in pre.
        falls = self.assert_cause(program_of(("give", name("x", 1))), (-1, 0), 0, "post", (3, 1, 0))
        self.assertEqual(len(falls), 1 + len([fall for fall in falls if fall[2] == "pre"]))
        program = program_of(("give", name("x", 1)))
        falls = self.assert_cause((*program[:2], (("a", ((0, 1, 0), (1, 2, 0), (2, 1, 0))),)), (0,), 0, "post", (3, 1, 0))
        # What clashes with the promises has not to fall: x at most y is one of them.
        self.assertEqual([fall[2] for fall in falls], ["post"])

    def test_of_pre_and_of_post(self):
        body = ("let", "u", ("call", "b", (X, ("array", "r"))), ("give", name("u")))
        program = program_of(body, ("give", name("x", 2)))
        pre = self.assert_cause(program, (0,), 1, "pre", (1, 0, 0))
        self.assertEqual([fall[1] for fall in pre], [0] * (len(pre) - 1) + [1])
        post = self.assert_cause(program, (0,), 0, "post", (3, 0, 0))
        self.assertEqual(post[-1][1:4], (0, "post", (3, 0, 0)))
        self.assertIn((1, "post", (3, 0, 0)), [fall[1:4] for fall in post])

    def test_a_row_one_behind_another(self):
        body = ("if", ("most", X, ("num", -50)), GIVE, ("let", "u", ("call", "a", (name("x", -1), ("array", "r"))), GIVE))
        program = (*program_of(body)[:2], (("a", ((0, 1, 0), (1, 0, 0))),))
        numbers = (0, 1, 2, 3, 4, 5)
        for many, c in enumerate(numbers, start=1):
            falls = self.assert_cause(program, numbers, 0, "pre", (0, 1, c))
            row = [fall[3] for fall in falls if fall[3][:2] == (0, 1)]
            self.assertEqual(row, [(0, 1, c) for c in numbers[:many]])

    def test_what_does_not_fall(self):
        for f, (pre, post) in enumerate(EXAMPLE_KEPT):
            for part, qualities in (("pre", pre), ("post", post)):
                for quality in qualities:
                    with self.assertRaises(BadState):
                        cause(EXAMPLE, (0,), f, part, quality)
        # Of a function that nothing calls nothing falls of pre.
        program = program_of(GIVE, ("give", X))
        for quality in candidates(program, (-1, 0))[1][0]:
            with self.assertRaises(BadState):
                cause(program, (-1, 0), 1, "pre", quality)

    def test_by_chance(self):
        lengths = {}
        for seed in range(150):
            maker = Maker(seed)
            program, numbers = maker.program(), maker.numbers()
            gone = self.gone(program, numbers)
            for triple in maker.chance.sample(gone, min(len(gone), 4)):
                with self.subTest(seed):
                    falls = self.assert_cause(program, numbers, *triple)
                    lengths[len(falls)] = True
        self.assertIn(1, lengths)
        self.assertGreater(max(lengths), 6)

    def test_many_qualities(self):
        for program in (HALVES, DOWN):
            for f, part, quality in self.gone(program, SEVEN)[::40]:
                told = cause(program, SEVEN, f, part, quality)
                self.assertTrue(judge_cause(program, SEVEN, told))
                self.assertLess(len(told[1]), len(self.gone(program, SEVEN)))


class Judged(Asks):
    FALL = ("fall", 0, "pre", (0, 1, 0), (), -1, (0, -1))

    def test_the_falls_of_papers(self):
        for program, numbers in ((EXAMPLE, (-1,)), (BOTH, (0,)), (DOWN, (1,)), (LOST, SEVEN)):
            falls = paper(program, numbers)[1]
            for many in range(len(falls) + 1):
                self.assertIs(judge_cause(program, numbers, ("cause", falls[:many])), many > 0)

    def test_by_hand(self):
        other = ("fall", 0, "pre", (1, 0, 0), (), -1, (0, 1))
        for falls, right in (
            ((self.FALL,), True), ((self.FALL, other), True), ((other, self.FALL), True), ((), False), ((self.FALL, self.FALL), False),
            ([self.FALL], False), ((list(self.FALL),), False), ((self.FALL[:-1],), False), (self.FALL, False), (None, False), (DEEP, False),
            (((*self.FALL, 0),), False), ((self.FALL, None), False), ((put_in(self.FALL, (6,), (0, 0)),), False),
            ((put_in(self.FALL, (3,), (0, 1, 1)),), False), ((put_in(self.FALL, (2,), "post"),), False),
        ):
            self.assertIs(judge_cause(LOST, (0,), ("cause", falls)), right)
            self.assertIs(is_cause(LOST, (0,), ("cause", falls)), right)
        self.assertIs(judge_cause(LOST, (1,), ("cause", (self.FALL,))), False)
        self.assertIs(judge_cause(LOST, (), ("cause", (self.FALL,))), False)

    def test_short_or_not(self):
        more = ("fall", 0, "pre", (1, 0, 0), (), -1, (0, 1))
        self.assertEqual(cause(LOST, (0,), 0, "pre", (0, 1, 0))[1][-1][:6], self.FALL[:6])
        self.assertTrue(judge_cause(LOST, (0,), ("cause", (more, self.FALL))))

    def test_things_that_are_none(self):
        right = ("cause", (self.FALL,))
        for thing in (*JUNK, DEEP, [DEEP], list(right), (right,), ("cause",), ("causes", (self.FALL,)), (*right, ()), (None, (self.FALL,)),
                      ("cause", self.FALL), "cause", (DEEP, (self.FALL,)), ("cause", (DEEP,)), ("cause", (), (self.FALL,)),
                      ("refused", (self.FALL,)), ("cause", "fall"), ("cause", ("fall",)), (["cause"], (self.FALL,))):
            self.assertIs(judge_cause(LOST, (0,), thing), False)

    def test_one_thing_changed(self):
        for program, numbers, triple in ((EXAMPLE, (0,), (0, "post", (3, 0, 0))), (DOWN, (0,), (1, "post", (2, 0, 0)))):
            told = cause(program, numbers, *triple)
            seen = 0
            for place, part in places_in(told):
                for at, other in enumerate(others(part)):
                    thing = put_in(told, place, other)
                    if thing != told or isinstance(other, bool):
                        seen += 1
                        self.assertIs(judge_cause(program, numbers, thing), is_cause(program, numbers, thing), (place, at))
            self.assertGreater(seen, 100)


class Stays(Unchanged):
    def test_nothing_is_changed_and_the_answers_stay(self):
        told = cause(EXAMPLE, (0,), 0, "post", (3, 0, 0))
        self.assert_unchanged((
            (cause, [EXAMPLE, (0,), 0, "post", (3, 0, 0)]), (judge_cause, [EXAMPLE, (0,), told]), (judge_cause, [EXAMPLE, (0,), [told]]),
        ), (tuple, bool))
        for _, part in places_in(told):
            self.assertIn(type(part), (tuple, str, int))


if __name__ == "__main__":
    unittest.main()
