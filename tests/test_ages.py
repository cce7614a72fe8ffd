"""g1, g2 and u1: rounds and ages."""

import unittest

from claimfall.ages import ages, rounds_of
from claimfall.assignments import candidates
from claimfall.falling import is_let, strongest
from claimfall.papers import paper
from tests import naive_more
from tests.asks import Unchanged
from tests.chance import Maker
from tests.samples import BOTH, DOWN, EXAMPLE, EXAMPLE_KEPT, GIVE, HALVES, LOST, MOST, ZERO, fun, name, program_of

SEVEN = (-100, -2, -1, 0, 1, 2, 100)
X = name("x")


def ages_of(program, numbers):
    """A dict of the ages of all candidates, by (function, part, quality)."""
    told = ages(program, numbers)
    return {
        (f, part, quality): told[f][part][at]
        for f, pair in enumerate(candidates(program, numbers)) for part in (0, 1) for at, quality in enumerate(pair[part])
    }


def row_of(many):
    """Functions a, b, .. with an int x of which each calls the next one with x, the first one open."""
    words = "abcdefgh"[:many]
    functions = [
        fun(word, (("x", "int"),), ("let", "u", ("call", after, (X,)), GIVE)) for word, after in zip(words, words[1:])
    ]
    return ("program", (*functions, fun(words[-1], (("x", "int"),), GIVE)), ((words[0], ()),))


class Rounds(unittest.TestCase):
    def test_no_round(self):
        # All candidates are kept: nothing is asked, or all is promised, or there is none.
        clashing = (*program_of(("never",))[:2], (("a", ((0, 1, 0), (1, 0, -1))),))
        for program, numbers in ((clashing, SEVEN), (clashing, (0,)), (EXAMPLE, ()), (LOST, ())):
            self.assertEqual(rounds_of(program, numbers), (candidates(program, numbers),))
            self.assertEqual(set(ages_of(program, numbers).values()) - {None}, set())

    def test_one_round(self):
        program = ("program", (fun("f", (("x", "int"),), ("give", X)),), (("f", ()),))
        told = rounds_of(program, (0,))
        # With all of pre, all of post follows; without it nothing does but what holds of x itself.
        self.assertEqual(len(told), 3)
        program = ("program", (fun("f", (("x", "int"),), ("never",)),), (("f", ()),))
        first, last = rounds_of(program, (0,))
        self.assertEqual(first, candidates(program, (0,)))
        self.assertEqual(last, (((), first[0][1]),))

    def test_all_falls_at_once(self):
        # In the first round all of pre falls that does not follow, whatever falls beside it.
        program = ("program", (fun("f", (("x", "int"),), ("give", X)),), (("f", ()),))
        first, second, last = rounds_of(program, (-1, 0))
        self.assertEqual(first[0][0], ((0, 1, -1), (0, 1, 0), (1, 0, -1), (1, 0, 0)))
        self.assertEqual(second, (((), first[0][1]),))
        self.assertEqual(last, strongest(program, (-1, 0)))
        self.assertEqual(last, (((), ((1, 2, 0), (2, 1, 0))),))

    def test_one_function_behind_another(self):
        for many in (1, 2, 3, 8):
            program = row_of(many)
            told = rounds_of(program, (0,))
            for at, assignment in enumerate(told[:many + 1]):
                self.assertEqual([pre == () for pre, _ in assignment], [f < at for f in range(many)])
            table = ages_of(program, (0,))
            self.assertEqual([table[f, 0, (0, 1, 0)] for f in range(many)], list(range(many)))

    def test_the_first_and_the_last_one_once_each(self):
        for program, numbers in ((EXAMPLE, (0,)), (DOWN, SEVEN), (HALVES, (-1, 0)), (BOTH, (0,)), (LOST, SEVEN)):
            told = rounds_of(program, numbers)
            self.assertEqual(told[0], candidates(program, numbers))
            self.assertEqual(told[-1], strongest(program, numbers))
            self.assertEqual(len(set(told)), len(told))
        self.assertEqual(rounds_of(EXAMPLE, (0,))[-1], EXAMPLE_KEPT)

    def test_down_by_one_from_call_to_call(self):
        # x at least c falls behind x at least c + 1 has fallen: an age for each number.
        body = ("if", ("most", X, ("num", -500)), GIVE, ("let", "u", ("call", "a", (name("x", -1), ("array", "r"))), GIVE))
        program = (*program_of(body)[:2], (("a", ((0, 1, 2),)),))
        table = ages_of(program, (2, 3, 4, 5))
        self.assertEqual([table[0, 0, (0, 1, c)] for c in (2, 3, 4, 5)], [0, 1, 2, 3])

    def test_what_clashes_follows(self):
        # Ahead of x at most -1 falls, all of what is called follows from that it clashes with x at least 0.
        call = ("let", "u", ("call", "b", (("num", 7), ("array", "r"))), GIVE)
        body = ("if", ("most", ZERO, X), call, GIVE)
        program = program_of(body, GIVE)
        table = ages_of(program, (-1,))
        self.assertEqual(table[0, 0, (1, 0, -1)], 0)
        self.assertEqual(table[1, 0, (1, 0, -1)], 1)
        self.assertIsNone(table[1, 0, (0, 1, -1)])

    def test_opens_and_calls_and_gives(self):
        # One and the same quality falls in the round in which it first does not follow somewhere.
        call = ("let", "u", ("call", "b", (X, ("array", "r"))), ("give", name("u")))
        program = (*program_of(call, ("give", X))[:2], (("b", ()), ("a", ())))
        table = ages_of(program, (0,))
        self.assertEqual(table[1, 0, (0, 1, 0)], 0)
        self.assertEqual(table[0, 0, (0, 1, 0)], 0)
        self.assertEqual(table[1, 1, (0, 3, 0)], 1)
        self.assertEqual(table[0, 1, (0, 3, 0)], 2)
        self.assertIsNone(table[0, 1, (1, 3, 0)])

    def test_as_the_document_says(self):
        lengths = {}
        for seed in range(150):
            maker = Maker(seed)
            program, numbers = maker.program(), maker.numbers()
            with self.subTest(seed):
                told = rounds_of(program, numbers)
                self.assertEqual(told, naive_more.rounds(program, numbers))
                table = {}
                for n, assignment in enumerate(told[:-1]):
                    for triple in naive_more.triples(assignment):
                        table[triple] = n
                table.update(dict.fromkeys(naive_more.triples(told[-1])))
                self.assertEqual(ages_of(program, numbers), table)
                lengths[len(told)] = True
        self.assertGreaterEqual(sorted(lengths)[:4], [1, 2, 3, 4])


class Ages(unittest.TestCase):
    def test_in_the_order_of_the_candidates(self):
        every = candidates(EXAMPLE, (0,))
        told = ages(EXAMPLE, (0,))
        self.assertEqual([[len(part) for part in pair] for pair in told], [[len(part) for part in pair] for pair in every])
        for pair, row, kept in zip(every, told, EXAMPLE_KEPT):
            for part in (0, 1):
                self.assertEqual(tuple(q for q, age in zip(pair[part], row[part]) if age is None), kept[part])

    def test_nought_and_none(self):
        program = ("program", (fun("f", (("x", "int"),), ("never",)),), (("f", ((0, 1, 0),)),))
        self.assertEqual(ages(program, (0,)), (((None, 0), (None,) * 6),))
        self.assertEqual(ages(program, ()), (((), ()),))

    def test_a_refused_paper_has_as_many_falls_ahead(self):
        old = 0
        for seed in range(150):
            maker = Maker(seed)
            program, numbers = maker.program(), maker.numbers()
            if not is_let(program, numbers):
                table = ages_of(program, numbers)
                for at, fall in enumerate(paper(program, numbers)[1]):
                    age = table[fall[1], ("pre", "post").index(fall[2]), fall[3]]
                    self.assertLessEqual(age, at)
                    old = max(old, age)
        self.assertGreater(old, 2)

    def test_with_more_numbers_no_candidate_has_a_lesser_age(self):
        grown = 0
        for seed in range(150):
            maker = Maker(seed)
            program = maker.program()
            numbers = tuple(sorted(maker.chance.sample(SEVEN[1:-1], maker.chance.randint(1, 4))))
            fewer = tuple(sorted(maker.chance.sample(numbers, maker.chance.randint(0, len(numbers) - 1))))
            before, after = ages_of(program, fewer), ages_of(program, numbers)
            with self.subTest(seed):
                for triple, age in before.items():
                    if after[triple] is not None:
                        self.assertIsNotNone(age)
                        self.assertLessEqual(age, after[triple])
                        grown += age < after[triple]
                    else:
                        grown += age is not None
        self.assertGreater(grown, 10)


class Great(unittest.TestCase):
    def test_many_rounds(self):
        # Eight in a ring, of which the last one hands on x + 1. Behind a round for each of them, in which all falls that
        # clashes with what was promised, one number of one function falls behind another.
        words = "abcdefgh"
        functions = []
        for at, word in enumerate(words):
            call = ("call", words[(at + 1) % 8], (name("x", at // 7), ("array", "r")))
            functions.append(fun(word, (("x", "int"), ("r", "array")), ("if", MOST, ("let", "u", call, GIVE), GIVE)))
        program = ("program", tuple(functions), (("a", ((1, 0, -100),)),))
        numbers = (-100, -90, -80, -70, 0, 50, 100)
        told = rounds_of(program, numbers)
        self.assertEqual(told[-1], strongest(program, numbers))
        table = ages_of(program, numbers)
        self.assertEqual([table[f, 0, (1, 0, c)] for c in numbers for f in range(8)], list(range(8, 64)))


class Stays(Unchanged):
    def test_nothing_is_changed_and_the_answers_stay(self):
        self.assert_unchanged(((rounds_of, [HALVES, (-1, 0)]), (ages, [HALVES, (-1, 0)]), (ages, [LOST, ()])), (tuple,))


if __name__ == "__main__":
    unittest.main()
