"""l1 to l5, l7 and u1: tables, table papers, needed qualities and short refused papers."""

import itertools
import unittest

from claimfall.assignments import holds, is_kept
from claimfall.errors import BadState, TooGreat
from claimfall.falling import is_let, strongest, strongest_within
from claimfall.least import (
    all_promises_table, judge_table, needed, number_table, promise_table, short, table_paper,
)
from claimfall.papers import judge, paper
from claimfall.programs import check_program
from tests import naive, naive_more
from tests.asks import Unchanged
from tests.chance import Maker
from tests.samples import BOTH, DEEP, DOWN, EXAMPLE, GIVE, HALVES, JUNK, LOST, ZERO, fun, name, program_of

SEVEN = (-100, -2, -1, 0, 1, 2, 100)
X = name("x")


def handed_on(*numbers):
    """A program that is let exactly with all of these numbers: for each there is a function that asks for x at most it."""
    words = "bcdefgh"[:len(numbers)]
    body = GIVE
    for word, number in zip(words, numbers):
        body = ("let", "u", ("call", word, (("num", number),)), body)
    functions = [fun("a", (), body)]
    for word, number in zip(words, numbers):
        functions.append(fun(word, (("x", "int"),), ("claim", ("most", X, ("num", number)), GIVE)))
    return ("program", tuple(functions), (("a", ()),))


def promised(body, *promises):
    return ("program", (fun("f", (("x", "int"), ("y", "int")), body),), (("f", promises),))


def inner(condition):
    """A function that hands x and y on to another one which claims something of them."""
    functions = (
        fun("f", (("x", "int"), ("y", "int")), ("let", "u", ("call", "g", (X, name("y"))), GIVE)),
        fun("g", (("x", "int"), ("y", "int")), ("claim", condition, GIVE)),
    )
    return ("program", functions, (("f", ()),))


class NumberTables(unittest.TestCase):
    def test_samples(self):
        for program, numbers, table in (
            (EXAMPLE, (0,), (((0,),), ((),))), (EXAMPLE, (-1,), ((), ((-1,),))), (EXAMPLE, (), ((), ((),))),
            (BOTH, (-1, 0), (((-1, 0),), ((-1,), (0,)))), (LOST, SEVEN, ((), (SEVEN,))),
            (DOWN, (0, 1), (((0,),), ((1,),))), (HALVES, (-1, 0, 1), (((0,),), ((-1, 1),))),
        ):
            self.assertEqual(number_table(program, numbers), table)

    def test_no_numbers(self):
        self.assertEqual(number_table(program_of(GIVE), ()), (((),), ()))
        self.assertEqual(number_table(program_of(("never",)), ()), ((), ((),)))

    def test_let_with_none_of_them_and_with_no_part(self):
        for numbers in ((), (0,), (-1, 0), SEVEN):
            self.assertEqual(number_table(program_of(GIVE), numbers), (((),), ()))
            self.assertEqual(number_table(program_of(("never",)), numbers), ((), (numbers,)))

    def test_all_of_some_numbers(self):
        for numbers in ((0,), (-1, 4), (-7, 0, 30), (-100, -1, 0, 2, 5, 100)):
            program = handed_on(*numbers)
            check_program(program)
            without_one = tuple(sorted(tuple(c for c in numbers if c != gone) for gone in numbers))
            self.assertEqual(number_table(program, numbers), ((numbers,), without_one))
            more = tuple(sorted((*numbers, 50)))
            least, greatest = number_table(program, more)
            self.assertEqual(least, (numbers,))
            self.assertEqual(greatest, tuple(sorted(tuple(c for c in more if c != gone) for gone in numbers)))

    def test_one_number_or_another(self):
        # The claim is x at most 5; what is handed in is 3: any of 3, 4 and 5 will do.
        body = ("let", "u", ("call", "b", (("num", 3), ("array", "r"))), GIVE)
        program = program_of(body, ("claim", ("most", X, ("num", 5)), GIVE))
        self.assertEqual(number_table(program, (2, 3, 4, 5, 6)), (((3,), (4,), (5,)), ((2, 6),)))
        # Ascending as tuples, not by how many there are: x at most 0 and x at least 0, or x at most the length ..
        body = ("let", "u", ("call", "b", (("num", 0), ("array", "r"))), GIVE)
        program = program_of(body, ("claim", ("most", ("num", -1), X), ("claim", ("most", X, ("num", 2)), GIVE)))
        # 0 by itself tells both; 1 tells them, too; 2 only the second.
        self.assertEqual(number_table(program, (0, 1, 2)), (((0,), (1,)), ((2,),)))

    def test_parts_of_unlike_sizes(self):
        # x is at most 10 and y at least -20: x at most y and 30 by the number 30, or by 10 and 20 together.
        program = promised(("claim", ("most", X, name("y", 30)), GIVE), (1, 0, 10), (0, 2, 20))
        self.assertEqual(number_table(program, (10, 20, 30)), (((10, 20), (30,)), ((10,), (20,))))
        self.assertEqual(number_table(program, (5, 10, 20, 30)), (((10, 20), (30,)), ((5, 10), (5, 20))))
        for numbers in ((10, 20, 30), (5, 10, 15, 20, 30), (10, 19, 20, 21), (9, 10, 20, 29, 30, 31)):
            table = naive_more.table(numbers, lambda part: naive_more.is_let(program, part))
            self.assertEqual(number_table(program, numbers), table)
        told = table_paper(program, (10, 20, 30))
        self.assertEqual([part for part, _ in told[1]], [(10, 20), (30,)])
        self.assertTrue(judge_table(program, (10, 20, 30), told))

    def test_by_chance(self):
        tables = {}
        for seed in range(150):
            maker = Maker(seed)
            program = maker.program(depth=6)
            numbers = tuple(sorted(maker.chance.sample(SEVEN[1:-1], maker.chance.randint(1, 4))))
            with self.subTest(seed):
                told = number_table(program, numbers)
                self.assertEqual(told, naive_more.table(numbers, lambda part: naive_more.is_let(program, part)))
                tables[told] = True
        self.assertGreater(len(tables), 30)

    def test_seven_numbers(self):
        for program in (EXAMPLE, BOTH, DOWN, HALVES):
            told = number_table(program, SEVEN)
            self.assertEqual(told, naive_more.table(SEVEN, lambda part: is_let(program, part)))


class PromiseTables(unittest.TestCase):
    def test_one_two_and_three(self):
        body = ("claim", ("most", ZERO, X), ("claim", ("most", X, name("y", 4)), GIVE))
        for promises, numbers, table in (
            # By the places themselves, so that the numbers have to be among these.
            (((0, 1, 0),), (0, 4), ((), ((0,),))),
            (((0, 1, 0), (1, 2, 4)), (0, 4), (((0, 1),), ((0,), (1,)))),
            (((0, 1, 0), (1, 2, 4)), (0,), ((), ((0, 1),))),
            (((0, 1, 0), (0, 1, 0), (1, 2, 3)), (-1, 0, 3), (((0, 2), (1, 2)), ((0, 1), (2,)))),
            (((1, 2, 3), (0, 1, 1), (0, 1, -1)), (-1, 0, 3), (((0, 2),), ((0, 1), (1, 2)))),
            ((), (0, 4), ((), ((),))),
        ):
            self.assertEqual(promise_table(promised(body, *promises), numbers, 0), table)
        self.assertEqual(promise_table(promised(GIVE, (0, 1, 0), (1, 2, 0)), (0,), 0), (((),), ()))
        self.assertEqual(promise_table(promised(GIVE), (0,), 0), (((),), ()))
        self.assertEqual(promise_table(promised(("never",), (0, 1, 0), (1, 2, 0)), (0,), 0), ((), ((0, 1),)))

    def test_parts_of_unlike_sizes(self):
        program = promised(("claim", ("most", X, name("y", 30)), GIVE), (1, 0, 10), (1, 2, 30), (0, 2, 20))
        self.assertEqual(promise_table(program, (10, 20, 30), 0), (((0, 2), (1,)), ((0,), (2,))))
        self.assertEqual(all_promises_table(program, (10, 20, 30)), ((((0, 0), (0, 2)), ((0, 1),)), (((0, 0),), ((0, 2),))))

    def test_promises_that_clash(self):
        program = promised(("never",), (0, 1, 0), (1, 0, -1), (1, 2, 0))
        self.assertEqual(promise_table(program, (-1,), 0), (((0, 1),), ((0, 2), (1, 2))))
        self.assertEqual(promise_table(program, (), 0), ((), ((0, 1, 2),)))

    def test_all_else_stays(self):
        functions = (
            fun("f", (("x", "int"),), ("claim", ("most", ZERO, X), GIVE)), fun("g", (("x", "int"),), ("claim", ("most", X, ZERO), GIVE)),
        )
        for promises, table in ((((0, 1, 0),), (((0,),), ((),))), ((), ((), ((0,),)))):
            program = ("program", functions, (("g", ((1, 0, 0),)), ("f", promises)))
            self.assertEqual(promise_table(program, (0,), 0), table)
        program = ("program", functions, (("g", ((1, 0, 0),)), ("f", ((0, 1, 5), (0, 1, -5), (0, 1, 0)))))
        self.assertEqual(promise_table(program, (0,), 1), (((1,), (2,)), ((0,),)))
        self.assertEqual(promise_table(program, (0,), 0), (((0,),), ((),)))

    def test_seven(self):
        conditions = [(0, 1, c) for c in (3, 2, 1, 0, -1, -2, -3)]
        program = promised(("claim", ("most", ZERO, X), GIVE), *conditions)
        self.assertEqual(promise_table(program, (0,), 0), (((3,), (4,), (5,), (6,)), ((0, 1, 2),)))
        program = promised(("claim", ("most", ZERO, X), GIVE), *[(1, 2, 0)] * 7)
        self.assertEqual(promise_table(program, (0,), 0), ((), (tuple(range(7)),)))

    def test_by_chance(self):
        tables = {}
        for seed in range(200):
            maker = Maker(seed)
            program, numbers = maker.program(depth=4), maker.numbers()
            opens = tuple((word, (*promises, *maker.promises(naive.number_of(program, word)))) for word, promises in program[2])
            program = (*program[:2], opens)
            for place, (_, promises) in enumerate(opens):
                pairs = [(place, at) for at in range(len(promises))]
                others = [(other, at) for other, (_, rest) in enumerate(opens) if other != place for at in range(len(rest))]

                def with_part(part):
                    return naive_more.is_let(naive_more.with_promises(program, [*others, *[(place, at) for at in part]]), numbers)

                with self.subTest(seed):
                    told = promise_table(program, numbers, place)
                    self.assertEqual(told, naive_more.table(tuple(at for _, at in pairs), with_part))
                    tables[told] = True
        self.assertGreater(len(tables), 8)


class AllPromises(unittest.TestCase):
    FUNCTIONS = (
        fun("f", (("x", "int"),), ("claim", ("most", ZERO, X), GIVE)), fun("g", (("x", "int"),), ("claim", ("most", X, ZERO), GIVE)),
    )

    def table(self, numbers, *opens):
        return all_promises_table(("program", self.FUNCTIONS, opens), numbers)

    def test_of_two_opens(self):
        self.assertEqual(self.table((0,), ("f", ((0, 1, 0),)), ("g", ((1, 0, 0),))), (
            (((0, 0), (1, 0)),), (((0, 0),), ((1, 0),)),
        ))
        self.assertEqual(self.table((0,), ("g", ((1, 0, 1), (1, 0, 0))), ("f", ((0, 1, 0), (0, 1, -1)))), (
            (((0, 1), (1, 0)), ((0, 1), (1, 1))), (((0, 0), (0, 1)), ((0, 0), (1, 0), (1, 1))),
        ))
        self.assertEqual(self.table((0,), ("f", ())), ((), ((),)))
        self.assertEqual(self.table((1,), ("f", ((0, 1, 0),))), ((), (((0, 0),),)))
        harmless = ("program", (fun("f", (("x", "int"),), GIVE),), (("f", ((0, 1, 0),)),))
        self.assertEqual(all_promises_table(harmless, (0,)), (((),), ()))

    def test_seven_and_eight(self):
        three, four = ((0, 1, 0),) * 3, ((1, 0, 0),) * 4
        least, greatest = self.table((0,), ("f", three), ("g", four))
        self.assertEqual(least, tuple(((0, at), (1, to)) for at, to in itertools.product(range(3), range(4))))
        self.assertEqual(greatest, (tuple((0, at) for at in range(3)), tuple((1, at) for at in range(4))))
        for opens in ((("f", four), ("g", four)), (("f", ((0, 1, 0),) * 8),), (("f", ((0, 1, 0),) * 7), ("g", ((1, 0, 0),)))):
            with self.assertRaises(TooGreat):
                self.table((0,), *opens)
        self.assertEqual(len(self.table((0,), ("f", ((0, 1, 0),) * 7))[0]), 7)

    def test_by_chance(self):
        for seed in range(100):
            maker = Maker(seed)
            program, numbers = maker.program(depth=4), maker.numbers()
            pairs = tuple((place, at) for place, (_, promises) in enumerate(program[2]) for at in range(len(promises)))
            with self.subTest(seed):
                self.assertEqual(all_promises_table(program, numbers), naive_more.table(
                    pairs, lambda part: naive_more.is_let(naive_more.with_promises(program, part), numbers),
                ))


class TablePapers(unittest.TestCase):
    def test_the_parts_of_the_table_in_its_order(self):
        for program, numbers in ((EXAMPLE, (-1, 0, 1)), (BOTH, (-1, 0, 1)), (LOST, (0,)), (DOWN, (0, 1)), (program_of(GIVE), (0,))):
            word, lets, refusals = table_paper(program, numbers)
            self.assertEqual(word, "table")
            self.assertEqual((tuple(part for part, _ in lets), tuple(part for part, _ in refusals)), number_table(program, numbers))
            for rows, kind in ((lets, "let"), (refusals, "refused")):
                for part, told in rows:
                    self.assertEqual(told[0], kind)
                    self.assertTrue(judge(program, part, told))
            self.assertIs(judge_table(program, numbers, (word, lets, refusals)), True)

    def test_another_order_and_more_rows(self):
        word, lets, refusals = table_paper(BOTH, (-1, 0, 1))
        self.assertEqual([part for part, _ in refusals], [(-1, 1), (0, 1)])
        for thing, right in (
            ((word, lets, refusals[::-1]), True), ((word, lets[::-1], refusals), True), ((word, lets * 2, refusals * 3), True),
            ((word, ((((-1, 0, 1), paper(BOTH, (-1, 0, 1)))), *lets), refusals), True),
            ((word, lets, (((), paper(BOTH, ())), *refusals, ((1,), paper(BOTH, (1,))))), True),
            # Not each part is decided.
            ((word, lets, refusals[:1]), False), ((word, lets, refusals[1:]), False), ((word, (), refusals), False),
            ((word, lets, ()), False), ((word, (((-1, 0, 1), paper(BOTH, (-1, 0, 1))),), refusals), False), ((word, (), ()), False),
            ((word, lets, (refusals[0], ((0,), paper(BOTH, (0,))), ((1,), paper(BOTH, (1,))))), False),
            ((word, refusals, lets), False),
        ):
            self.assertIs(judge_table(BOTH, (-1, 0, 1), thing), right)

    def test_fewer_rows_for_fewer_numbers(self):
        for numbers in ((-1, 0), (-1,), (0,), ()):
            told = table_paper(BOTH, numbers)
            for others in ((-1, 0), (-1,), (0,), (), (-1, 0, 1)):
                self.assertIs(judge_table(BOTH, others, told), others == numbers)
        # One row that holds all of a part decides what is more than it.
        harmless = program_of(GIVE)
        self.assertTrue(judge_table(harmless, SEVEN, ("table", (((), paper(harmless, ())),), ())))
        self.assertFalse(judge_table(harmless, SEVEN, ("table", (((0,), paper(harmless, (0,))),), ())))
        self.assertTrue(judge_table(LOST, SEVEN, ("table", (), ((SEVEN, paper(LOST, SEVEN)),))))
        self.assertFalse(judge_table(LOST, SEVEN, ("table", (), ((SEVEN[1:], paper(LOST, SEVEN[1:])),))))

    def test_papers_of_other_parts_and_words(self):
        numbers = (-1, 0)
        word, lets, refusals = table_paper(BOTH, numbers)
        (whole, right), = lets
        for thing in (
            (word, ((numbers, paper(BOTH, (0,))),), refusals), (word, (((0,), right),), refusals), (word, lets, (refusals[0], ((0,), refusals[0][1]))),
            (word, lets, (((), refusals[0][1]), *refusals[1:])), (word, ((numbers, right, right),), refusals), (word, ((numbers,),), refusals),
            (word, ([numbers, right],), refusals), (word, ((list(numbers), right),), refusals), (word, (((0, -1), right),), refusals),
            (word, (((-1, 0, 0), right),), refusals), (word, (((-1, 0, 1), right),), refusals), (word, (((-1, False), right),), refusals),
            (word, [(whole, right)], refusals), (word, lets, list(refusals)), (word, lets), (word, lets, refusals, ()), [word, lets, refusals],
            ("tables", lets, refusals), (None, lets, refusals), (word, None, refusals), (word, lets, None), (word, (*lets, None), refusals),
            (word, (*lets, ()), refusals), (word, (*lets, (numbers, None)), refusals), (word, (*lets, (numbers, ("let",))), refusals),
            (word, (*lets, (None, right)), refusals), (word, (*lets, (DEEP, DEEP)), refusals), (word, (*lets, DEEP), refusals),
            (word, lets, (*refusals, DEEP)), (word, DEEP, DEEP), (DEEP, lets, refusals), (word, lets, (*refusals, lets[0])),
            (word, (*lets, refusals[0]), refusals), *JUNK, DEEP, [DEEP],
        ):
            self.assertIs(judge_table(BOTH, numbers, thing), False)
        self.assertTrue(judge_table(BOTH, numbers, (word, lets, refusals)))

    def test_a_fault_deep_within(self):
        word, lets, refusals = table_paper(BOTH, (-1, 0))
        (part, (kind, falls, look)), other = refusals
        for fault in (("refused", falls[1:], look), ("refused", falls, ("look", *look[1:3], (0, 0, 0, 0))), ("refuse", falls, look)):
            self.assertIs(judge_table(BOTH, (-1, 0), (word, lets, ((part, fault), other))), False)
        ((whole, (kind, kept, proofs)),) = lets
        self.assertIs(judge_table(BOTH, (-1, 0), (word, ((whole, (kind, kept, (proofs[0], ()))),), refusals)), False)

    def test_by_chance(self):
        for seed in range(100):
            maker = Maker(seed)
            program, numbers = maker.program(), maker.numbers()
            told = table_paper(program, numbers)
            with self.subTest(seed):
                self.assertIs(judge_table(program, numbers, told), True)
                # Each of its rows is asked for.
                for place in (1, 2):
                    for at in range(len(told[place])):
                        fewer = (*told[place][:at], *told[place][at + 1:])
                        self.assertIs(judge_table(program, numbers, (*told[:place], fewer, *told[place + 1:])), False)


class Needed(unittest.TestCase):
    def test_samples(self):
        # Of the example the index at least 0 is needed, and nothing else.
        self.assertEqual(needed(EXAMPLE, (0,)), ((((0, 2, 0),), ()), ((), ())))
        self.assertEqual(needed(BOTH, (-1, 0)), ((((0, 2, 0), (2, 1, -1)), ()), ((), ())))
        self.assertEqual(needed(DOWN, (0,)), ((((0, 1, 0),), ()), ((), ())))
        self.assertEqual(needed(HALVES, (0,)), ((((0, 2, 0), (3, 1, 0)), ()), ((), ())))
        self.assertEqual(needed(program_of(GIVE), SEVEN), (((), ()),))

    def test_not_let(self):
        for program, numbers in ((EXAMPLE, (-1,)), (LOST, SEVEN), (BOTH, (0,)), (EXAMPLE, ())):
            with self.assertRaises(BadState):
                needed(program, numbers)

    def test_the_first_ones_go(self):
        # x is 3 where it is asked for: of all that tells x at most 5 the last one is left.
        body = ("let", "u", ("call", "b", (("num", 3), ("array", "r"))), GIVE)
        program = program_of(body, ("claim", ("most", X, ("num", 5)), GIVE))
        for numbers in ((3, 4, 5), (3, 4), (3,), (4, 5, 6)):
            left = needed(program, numbers)
            self.assertEqual(left, (((), ()), (((1, 0, max(c for c in numbers if c < 6)),), ())))

    def test_pre_ahead_of_post_and_function_by_function(self):
        # Asked for: the result of g is at least 0, where g gives its x, which is at least 0.
        functions = (
            fun("f", (), ("let", "u", ("call", "g", (ZERO,)), ("claim", ("most", ZERO, name("u")), GIVE))),
            fun("g", (("x", "int"),), ("claim", ("most", ZERO, X), ("give", X))),
        )
        # The claim of g needs x at least 0; x being 0, the result at least 0 goes ahead of the result at least x.
        program = ("program", functions, (("f", ()),))
        self.assertEqual(needed(program, (0,)), (((), ()), (((0, 1, 0),), ((1, 2, 0),))))
        functions = (functions[0], fun("g", (("x", "int"),), ("give", X)))
        self.assertEqual(needed(("program", functions, (("f", ()),)), (0,)), (((), ()), ((), ((1, 2, 0),))))

    def test_as_the_document_says(self):
        unlike = {}
        for seed in range(250):
            maker = Maker(seed)
            program, numbers = maker.program(), maker.numbers()
            if is_let(program, numbers):
                with self.subTest(seed):
                    left = needed(program, numbers)
                    self.assertEqual(left, naive_more.needed(program, numbers))
                    self.look_at(program, numbers, left)
                    unlike[left] = True
        self.assertGreater(len(unlike), 20)

    def look_at(self, program, numbers, left):
        """What is left is kept and holds, and without any one of it nothing kept within it holds."""
        self.assertTrue(is_kept(program, left))
        self.assertTrue(holds(program, left))
        kept = strongest(program, numbers)
        self.assertLessEqual(set(naive_more.triples(left)), set(naive_more.triples(kept)))
        for triple in naive_more.triples(left):
            self.assertFalse(holds(program, strongest_within(program, naive_more.less(left, {triple}))))

    def test_the_samples_word_by_word(self):
        for program, numbers in ((EXAMPLE, (-1, 0, 1)), (BOTH, (-2, -1, 0, 1)), (DOWN, (0, 1)), (handed_on(1, 2, 3), (1, 2, 3))):
            left = needed(program, numbers)
            self.assertEqual(left, naive_more.needed(program, numbers))
            self.look_at(program, numbers, left)

    def test_many_qualities(self):
        for program in (EXAMPLE, BOTH, DOWN, HALVES, handed_on(-100, -2, -1, 0, 1, 2, 100)):
            self.look_at(program, SEVEN, needed(program, SEVEN))


class Short(unittest.TestCase):
    def assert_short(self, program, numbers):
        told = short(program, numbers)
        self.assertTrue(judge(program, numbers, told))
        self.assertTrue(naive.is_paper(program, numbers, told))
        _, falls, look = told
        for at in range(len(falls)):
            self.assertFalse(naive_more.can_be_left_out(program, numbers, (*falls, look), at), at)
        return told

    def test_samples(self):
        # The index of an entry is not known to be at least 0 with the number -1: nothing says x at least 1.
        for program, numbers in ((EXAMPLE, (-1,)), (EXAMPLE, ()), (BOTH, (0,)), (BOTH, (-1,)), (LOST, ()), (LOST, SEVEN), (DOWN, (1,)),
                                 (HALVES, (-1, 1)), (inner(("most", X, name("y"))), SEVEN)):
            self.assert_short(program, numbers)

    def test_few_falls(self):
        self.assertEqual(short(program_of(("never",)), ())[1], ())
        self.assertEqual(short(EXAMPLE, ())[1], ())
        program = program_of(("claim", ("most", ZERO, X), GIVE))
        # Of all candidates only those fall that speak against x below 0; those of pre alone are facts there.
        told = self.assert_short(program, SEVEN)
        self.assertLessEqual({fall[1:3] for fall in told[1]}, {(0, "pre")})
        self.assertLess(len(told[1]), len(paper(program, SEVEN)[1]))

    def test_let(self):
        for program, numbers in ((EXAMPLE, (0,)), (program_of(GIVE), ()), (BOTH, SEVEN)):
            with self.assertRaises(BadState):
                short(program, numbers)

    def test_by_chance(self):
        lengths = {}
        for seed in range(200):
            maker = Maker(seed)
            program, numbers = maker.program(), maker.numbers()
            if not is_let(program, numbers):
                with self.subTest(seed):
                    told = self.assert_short(program, numbers)
                    lengths[len(told[1])] = True
        self.assertGreater(max(lengths), 5)
        self.assertIn(0, lengths)

    def test_a_long_row(self):
        # x at least c falls one number behind another, down to x below 0.
        body = ("claim", ("most", ("num", -5), X), ("let", "u", ("call", "a", (name("x", -1), ("array", "r"))), GIVE))
        program = (*program_of(body)[:2], (("a", ((0, 1, 0), (1, 0, 0))),))
        numbers = (0, 1, 2, 3, 4, 5)
        falls = self.assert_short(program, numbers)[1]
        self.assertEqual([fall[3] for fall in falls if fall[3][:2] == (0, 1)], [(0, 1, c) for c in numbers])


class Stays(Unchanged):
    def test_nothing_is_changed_and_the_answers_stay(self):
        told = table_paper(BOTH, (-1, 0))
        thing = [told, list(told)]
        self.assert_unchanged((
            (number_table, [BOTH, (-1, 0)]), (promise_table, [DOWN, (0,), 0]), (all_promises_table, [DOWN, (0,)]),
            (table_paper, [BOTH, (-1, 0)]), (judge_table, [BOTH, (-1, 0), told]), (judge_table, [BOTH, (-1, 0), thing]),
            (needed, [EXAMPLE, (0,)]), (short, [BOTH, (0,)]),
        ), (tuple, bool))


if __name__ == "__main__":
    unittest.main()
