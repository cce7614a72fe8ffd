"""j1 to j3 and u1: papers, and what is one."""

import copy
import unittest

from claimfall.assignments import candidates, dues_at, facts_at, open_facts
from claimfall.facts import chain
from claimfall.falling import is_let, strongest, strongest_within
from claimfall.papers import judge, paper
from claimfall.paths import paths, unknowns
from tests import naive
from tests.chance import Maker
from tests.samples import (
    BOTH, DEEP, DOWN, EXAMPLE, EXAMPLE_KEPT, FIRST, GIVE, HALVES, JUNK, LOST, WALK, ZERO, fun, name, program_of,
)

SEVEN = (-100, -2, -1, 0, 1, 2, 100)
X = name("x")
PARTS = ("pre", "post")

# Goes up for ever and never gives, so that all is known of its result.
UP = (
    "program",
    (("fun", "f", (("x", "int"),), ("let", "u", ("call", "f", (name("x", 1),)), ("give", name("u")))),
     ("fun", "g", (), ("let", "u", ("call", "f", (ZERO,)), ("claim", ("most", name("u"), ("num", 7)), ("give", name("u")))))),
    (("g", ()),),
)


def let_paper(program, assignment):
    """A let paper with an assignment, as far as things follow; what does not follow has the empty tuple."""
    def proof(facts, due):
        return chain(facts, due) or ()

    proofs = tuple(
        tuple(
            tuple(
                proof(facts_at(program, f, path, at, assignment), due)
                for at in range(len(items)) for due in dues_at(program, f, path, at, assignment)
            )
            for path, items in enumerate(paths(program, f))
        )
        for f in range(len(program[1]))
    )
    gifts = tuple(
        tuple(proof(open_facts(program, place), quality) for quality in assignment[naive.number_of(program, word)][0])
        for place, (word, _) in enumerate(program[2])
    )
    return ("let", assignment, (proofs, gifts))


def put_in(thing, place, part):
    """The thing with this part at a place, told by the indices that lead to it."""
    if place == ():
        return part
    return (*thing[:place[0]], put_in(thing[place[0]], place[1:], part), *thing[place[0] + 1:])


def places_in(thing, place=()):
    """The pairs (place, part) of all parts of a thing."""
    yield place, thing
    if isinstance(thing, tuple):
        for at, part in enumerate(thing):
            yield from places_in(part, (*place, at))


def others(part):
    """What may stand in the place of a part, but is not the same."""
    if isinstance(part, int):
        yield from (part + 1, part - 1, -part - 9, str(part), None, (part,), [part])
        if part in (0, 1):
            yield bool(part)
    if isinstance(part, str):
        yield from (part + "x", "", "pre", "post", "let", "look", None, 0, (part,), [part])
    if isinstance(part, tuple):
        yield from (list(part), (*part, *part[:1]), (*part, ()), (part,), None, True, 0, "fall", (), DEEP, [DEEP])
        for at in range(len(part)):
            yield (*part[:at], *part[at + 1:])
            yield (*part[:at], part[at], *part[at:])
            yield (*part[:at], *part[at:at + 2][::-1], *part[at + 2:])


class Asks(unittest.TestCase):
    def assert_paper(self, program, numbers, word):
        told = paper(program, numbers)
        self.assertEqual(told[0], word)
        self.assertIs(judge(program, numbers, told), True)
        self.assertTrue(naive.is_paper(program, numbers, told))
        self.assertIs(is_let(program, numbers), word == "let")
        kept = strongest(program, numbers)
        if word == "let":
            self.assertEqual(told[1], kept)
        else:
            fallen = [(f, PARTS.index(part), quality) for _, f, part, quality, _, _, _ in told[1]]
            gone = [
                (f, part, quality) for f, pair in enumerate(candidates(program, numbers)) for part in (0, 1)
                for quality in pair[part] if quality not in kept[f][part]
            ]
            self.assertEqual(sorted(fallen), gone)
        return told

    def assert_changes(self, program, numbers, told):
        """With one thing changed in a right paper, the judge says what the document says."""
        seen = 0
        for place, part in places_in(told):
            for at, other in enumerate(others(part)):
                thing = put_in(told, place, other)
                # True is 1 to Python, but not to the document.
                if thing != told or isinstance(other, bool):
                    seen += 1
                    right = naive.is_paper(program, numbers, thing)
                    self.assertIs(judge(program, numbers, thing), right, (place, at))
        self.assertGreater(seen, 300)

    def assert_judged(self, program, numbers, thing, right):
        self.assertIs(judge(program, numbers, thing), right)
        self.assertIs(naive.is_paper(program, numbers, thing), right)


class Example(Asks):
    def test_word_for_word(self):
        first = ("let", "u", ("call", "f", (("array", "a"), ("num", 0))), ("give", ("name", "u", 0)))
        walk = (
            "if", ("most", ("len", "a", 0), ("name", "x", 0)), ("give", ("name", "x", 0)),
            ("let", "v", ("at", "a", ("name", "x", 0)),
             ("let", "u", ("call", "f", (("array", "a"), ("name", "x", 1))), ("give", ("name", "u", 0)))),
        )
        functions = (("fun", "f", (("a", "array"), ("x", "int")), walk), ("fun", "g", (("a", "array"),), first))
        program = ("program", functions, (("g", ()),))
        self.assertEqual((program, walk, first), (EXAMPLE, WALK, FIRST))
        self.assertEqual(paths(program, 1), ((("fact", 0, 1, 0), ("call", "f", ((1, 0), (0, 0)), 2), ("give", 2, 0)),))
        self.assertEqual((is_let(program, (0,)), is_let(program, (-1,))), (True, False))
        self.assertEqual(strongest(program, (0,))[0], (
            ((0, 1, 0), (0, 2, 0), (2, 1, 0)),
            ((0, 1, 0), (0, 2, 0), (0, 3, 0), (1, 3, 0), (2, 1, 0), (2, 3, 0), (3, 1, 0)),
        ))
        self.assertEqual((judge(program, (0,), paper(program, (0,))), paper(program, (-1,))[0]), (True, "refused"))


class Papers(Asks):
    def test_samples(self):
        rows = (
            (EXAMPLE, (0,), "let"), (EXAMPLE, (-1,), "refused"), (EXAMPLE, (), "refused"), (EXAMPLE, SEVEN, "let"),
            (BOTH, (-1, 0), "let"), (BOTH, (-1,), "refused"), (BOTH, (0,), "refused"), (BOTH, SEVEN, "let"),
            (DOWN, (0,), "let"), (DOWN, (1,), "refused"), (HALVES, (0,), "let"), (HALVES, SEVEN, "let"),
            (HALVES, (-1, 1), "refused"), (LOST, (), "refused"), (LOST, (0,), "refused"), (LOST, SEVEN, "refused"),
            (UP, (7,), "let"), (UP, (), "refused"), (UP, SEVEN, "let"),
        )
        for at, (program, numbers, word) in enumerate(rows):
            with self.subTest(at):
                self.assert_paper(program, numbers, word)

    def test_by_chance(self):
        words = {"let": 0, "refused": 0}
        for seed in range(250):
            maker = Maker(seed)
            program, numbers = maker.program(), maker.numbers()
            with self.subTest(seed):
                told = self.assert_paper(program, numbers, "let" if is_let(program, numbers) else "refused")
            words[told[0]] += 1
        self.assertGreater(min(words.values()), 50)

    def test_no_falls(self):
        self.assertEqual(paper(LOST, ()), ("refused", (), ("look", (0, 0), 0, (0, paper(LOST, ())[2][3][1]))))
        self.assertLess(paper(LOST, ())[2][3][1], 0)
        program = program_of(GIVE)
        self.assertEqual(paper(program, ()), ("let", (((), ()),), ((((),),), ((),))))

    def test_falls_at_two_opens(self):
        opens = (("b", ((0, 1, 5),)), ("a", ((0, 1, 0),)))
        told = self.assert_paper((*program_of(GIVE, ("never",))[:2], opens), SEVEN, "refused")
        at_opens = [fall for fall in told[1] if fall[4] == ()]
        self.assertEqual(sorted(set(fall[1] for fall in at_opens)), [0, 1])
        self.assertEqual(set(fall[5] for fall in at_opens), {-1})
        self.assertEqual(set(len(fall[6]) for fall in at_opens), {3})

    def test_opens_of_functions_with_other_params(self):
        for params, more in (((("x", "int"),), ("y", "int")), ((("r", "array"), ("x", "int")), ("s", "array"))):
            functions = (fun("f", params, GIVE), fun("g", (*params, more), ("never",)))
            for opens in ((("f", ()), ("g", ())), (("g", ()), ("f", ())), (("f", ()), ("g", ((0, 2, -3), (1, 2, 0))))):
                told = self.assert_paper(("program", functions, opens), SEVEN, "refused")
                for _, f, _, _, path, _, values in told[1]:
                    if path == ():
                        self.assertEqual(len(values), len(functions[f][2]) + 1)

    def test_facts_that_clash_on_a_path(self):
        body = ("if", ("most", ("len", "r", 0), ("num", -1)), ("let", "u", ("at", "r", X), ("give", name("u"))), GIVE)
        told = self.assert_paper(program_of(body), SEVEN, "let")
        (first, _), = told[2][0]
        self.assertEqual(len(first), 2 + len(told[1][0][1]))
        for at, proof in zip((2, 3, *[4] * len(first)), first):
            self.assertTrue(naive.is_round(facts_at(program_of(body), 0, 0, at, told[1]), proof))

    def test_promises_that_clash(self):
        program = (*program_of(("never",))[:2], (("a", ((0, 1, 0), (1, 0, -1))),))
        told = self.assert_paper(program, (-1,), "let")
        (gifts,) = told[2][1]
        self.assertEqual(len(gifts), 6)
        for gift in gifts:
            self.assertIn(gift, ((0, 1), (1, 0)))

    def test_nothing_is_changed_and_the_answers_stay(self):
        for numbers in ((0,), (-1,)):
            arguments = [EXAMPLE, numbers]
            ahead = copy.deepcopy(arguments)
            told = paper(*arguments)
            self.assertEqual(paper(*arguments), told)
            thing = [told, list(told), ([],), told]
            kept = copy.deepcopy(thing)
            self.assertEqual([judge(*arguments, part) for part in thing], [True, False, False, True])
            self.assertEqual((arguments, thing), (ahead, kept))

    def test_only_tuples_strings_and_integers(self):
        for program, numbers in ((EXAMPLE, (0,)), (EXAMPLE, (-1,)), (DOWN, (0,)), (LOST, (0,))):
            for _, part in places_in(paper(program, numbers)):
                self.assertIn(type(part), (tuple, str, int))


class Lets(Asks):
    KEPT = ((((0, 2, 0),), ()), ((), ()))

    def test_by_hand(self):
        # Facts on f's second path: 0 of pre, 1 the length, 2 the if, 3 and 4 the looks.
        right = ("let", self.KEPT, ((((), ((0,), (2,), (0,))), (((),),)), ((),)))
        self.assert_judged(EXAMPLE, (0,), right, True)
        self.assert_judged(EXAMPLE, (-1, 0, 1), right, True)
        self.assert_judged(EXAMPLE, (-1, 1), right, False)
        self.assert_judged(EXAMPLE, (), right, False)
        for proofs in (((2,), (2,), (0,)), ((0,), (0,), (0,)), ((0,), (2,), (2,)), ((2,), (0,), (0,)), ((0,), (2,)),
                       ((0,), (2,), (0,), (0,)), ((0,), (2,), ()), ((3,), (2,), (0,)), ((0,), (4,), (0,)),
                       ((0,), (2,), (-3,)), ((0,), (2,), (False,)), ((0,), (2,), [0]), [(0,), (2,), (0,)]):
            self.assert_judged(EXAMPLE, (0,), put_in(right, (2, 0, 0, 1), proofs), False)
        # Behind the looks they are facts; more than is needed is right, too.
        for proofs in (((0,), (2,), (3,)), ((1, 2, 0)[2:], (2,), (0,))):
            self.assert_judged(EXAMPLE, (0,), put_in(right, (2, 0, 0, 1), proofs), True)

    def test_proofs_in_order(self):
        # At the call first (0, 1, 0), then (0, 2, 0) with x + 1, then (2, 1, 0); at the give those of post.
        told = paper(EXAMPLE, (0,))
        facts = facts_at(EXAMPLE, 0, 1, 5, EXAMPLE_KEPT)
        dues = [due for at in range(6) for due in dues_at(EXAMPLE, 0, 1, at, EXAMPLE_KEPT)]
        proofs = told[2][0][0][1]
        self.assertEqual(len(dues), 2 + 3 + 7)
        for due, proof in zip(dues, proofs):
            self.assertTrue(naive.is_chain(facts, due, proof))
        swapped = (*proofs[:3], proofs[4], proofs[3], *proofs[5:])
        self.assert_judged(EXAMPLE, (0,), put_in(told, (2, 0, 0, 1), swapped), False)

    def test_what_is_kept_and_holds_but_is_not_the_strongest(self):
        for program, numbers in ((EXAMPLE, (0,)), (BOTH, (-1, 0)), (DOWN, (0, 1)), (HALVES, (0,))):
            right = 0
            for seed in range(60):
                part = Maker(seed).part_of(program, numbers, 0.8)
                within = strongest_within(program, part)
                for assignment in (part, within):
                    good = naive.keeps(program, assignment) and naive.holds_at_looks(program, assignment)
                    self.assert_judged(program, numbers, let_paper(program, assignment), good)
                    right += good and assignment != strongest(program, numbers)
            self.assertGreater(right, 3)

    def test_what_is_not_kept_or_does_not_hold(self):
        empty = (((), ()), ((), ()))
        every = candidates(EXAMPLE, (0,))
        for assignment in (empty, every, ((((0, 2, 0),), ((3, 0, 0),)), ((), ()))):
            self.assert_judged(EXAMPLE, (0,), let_paper(EXAMPLE, assignment), False)

    def test_assignments_that_are_none(self):
        right = let_paper(EXAMPLE, EXAMPLE_KEPT)
        self.assert_judged(EXAMPLE, (0,), right, True)
        twice = ("let", ((((0, 2, 0), (0, 2, 0)), ()), ((), ())), ((((), ((0,), (2,), (0,), (0,))), (((), ()),)), ((),)))
        self.assert_judged(EXAMPLE, (0,), twice, False)
        turned = ("let", ((((0, 2, 0), (0, 1, 0)), ()), ((), ())),
                  ((((), ((0,), (3,), (0,), (1,))), (((), (0,)),)), ((),)))
        self.assert_judged(EXAMPLE, (0,), turned, False)
        straight = ("let", ((((0, 1, 0), (0, 2, 0)), ()), ((), ())),
                    ((((), ((1,), (3,), (0,), (1,))), (((0,), ()),)), ((),)))
        self.assert_judged(EXAMPLE, (0,), straight, True)
        for quality in ((0, 2, 1), (0, 2, False), (False, 2, 0), (0, 0, 0), (0, 3, 0), (0, 2), [0, 2, 0], (0, 2, 0, 0), (-1, 2, 0)):
            self.assert_judged(EXAMPLE, (0,), put_in(straight, (1, 0, 0, 1), quality), False)

    def test_a_round_as_a_proof(self):
        program = program_of(GIVE, ("never",))
        clash = ((0, 1, -1), (1, 0, -1))
        right = ("let", (((), ()), (clash, ())), ((((),), (((0, 1),),)), ((),)))
        for loop in ((0, 1), (1, 0), (0, 1, 0, 1), (1, 0, 1, 0)):
            self.assert_judged(program, (-1,), put_in(right, (2, 0, 1, 0), (loop,)), True)
        for loop in ((), (0,), (1,), (0, 1, 0), (0, 1, 2), (2,), [0, 1]):
            self.assert_judged(program, (-1,), put_in(right, (2, 0, 1, 0), (loop,)), False)

    def test_the_empty_chain(self):
        program = program_of(("give", name("x", -3)))
        post = ((1, 3, 3), (1, 3, 4))
        right = ("let", (((), post),), (((((), ()),),), ((),)))
        self.assert_judged(program, (3, 4), right, True)
        wrong = ("let", (((), ((1, 3, 2),)),), (((((),),),), ((),)))
        self.assert_judged(program, (2,), wrong, False)
        self.assertEqual(chain(facts_at(program, 0, 0, 1, wrong[1]), (1, 1, -1)), None)

    def test_gifts_from_promises_and_then_lengths(self):
        params = (("x", "int"), ("r", "array"), ("y", "int"))
        opens = (("g", ()), ("f", ((1, 3, -2), (3, 0, 2))))
        program = ("program", (fun("f", params, GIVE), fun("g", params, GIVE)), opens)
        kept = ((((0, 2, 0), (1, 0, 0), (1, 2, 0), (1, 3, 0)), ()), (((0, 2, 0),), ()))
        right = ("let", kept, ((((),), ((),)), (((0,),), ((2,), (0, 1), (0, 1, 2), (0,)))))
        self.assert_judged(program, (0,), right, True)
        for gifts in (((2,), (0, 1), (0, 1, 2)), ((2,), (0, 1), (0, 1, 2), (0,), ()), ((0,), (0, 1), (0, 1, 2), (0,)),
                      ((2,), (1, 0), (0, 1, 2), (0,)), ((2,), (0, 1), (0,), (0, 1, 2)), ((3,), (0, 1), (0, 1, 2), (0,)),
                      [(2,), (0, 1), (0, 1, 2), (0,)], ()):
            self.assert_judged(program, (0,), put_in(right, (2, 1, 1), gifts), False)
        self.assert_judged(program, (0,), put_in(right, (2, 1), right[2][1][::-1]), False)

    def test_a_fact_of_a_call_ahead(self):
        call = ("call", "b", (X, ("array", "r")))
        body = ("let", "u", call, ("claim", ("most", ZERO, name("u")), ("give", name("u"))))
        program = program_of(body, ("give", ("num", 1)))
        kept = (((), ((0, 3, 0),)), ((), ((0, 3, -1), (0, 3, 0))))
        # Behind the call facts 1 and 2 are those of post of b, in order; fact 3 is the look.
        for look, give, right in (((1,), (1,), True), ((2,), (3,), True), ((2,), (2,), True), ((3,), (2,), False),
                                  ((0,), (2,), False), ((2,), (0,), False), ((), (2,), False)):
            thing = ("let", kept, ((((look, give),), (((), ()),)), ((),)))
            self.assert_judged(program, (-1, 0), thing, right)

    def test_one_thing_changed(self):
        for program, numbers in ((EXAMPLE, (0,)), (DOWN, (0,)), (UP, (7,))):
            self.assert_changes(program, numbers, paper(program, numbers))


class Refusals(Asks):
    FALL = ("fall", 0, "pre", (0, 1, 0), (), -1, (0, -1))
    LOOK = ("look", (0, 0), 0, (0, -1))

    def test_by_hand(self):
        self.assert_judged(LOST, (0,), ("refused", (self.FALL,), self.LOOK), True)
        self.assert_judged(LOST, (0,), ("refused", (), self.LOOK), False)
        self.assert_judged(LOST, (0,), ("refused", (self.FALL, self.FALL), self.LOOK), False)
        self.assert_judged(LOST, (-1, 0), ("refused", (self.FALL,), self.LOOK), False)
        self.assert_judged(LOST, (1,), ("refused", (self.FALL,), self.LOOK), False)
        self.assert_judged(LOST, (), ("refused", (), self.LOOK), True)

    def test_the_look_of_never_without_a_fall(self):
        self.assert_judged(LOST, (0,), ("refused", (), ("look", (0, 0), 1, (0, 0))), True)
        for values in ((0, 1), (0, -1), (1, 1), (0,), (0, 0, 0), (0, False), [0, 0], (False, 0), (0, "0"), (0, None)):
            self.assert_judged(LOST, (0,), ("refused", (), ("look", (0, 0), 1, values)), False)
        for look in (("look", (0, 0), 2, (0, 0)), ("look", (0, 0), -1, (0, 0)), ("look", (0, 1), 1, (0, 0)),
                     ("look", (1, 0), 1, (0, 0)), ("look", (0, -1), 1, (0, 0)), ("look", (-1, 0), 1, (0, 0)),
                     ("look", (0, 0), True, (0, 0)), ("look", (False, 0), 1, (0, 0)), ("look", (0, False), 1, (0, 0)),
                     ("look", [0, 0], 1, (0, 0)), ("look", (), -1, (0, 0)), ("look", (0, 0, 0), 1, (0, 0)),
                     ("fall", (0, 0), 1, (0, 0)), ("look", (0, 0), 1), ("look", (0, 0), 1, (0, 0), 0), (), None, "look"):
            self.assert_judged(LOST, (0,), ("refused", (), look), False)

    def test_values_at_an_open(self):
        for values, right in (((0, -1), True), ((0, -50), True), ((0, 0), False), ((0, 1), False), ((1, -1), False),
                              ((0,), False), ((0, -1, 0), False), ([0, -1], False), ((False, -1), False), ((), False)):
            self.assert_judged(LOST, (0,), ("refused", (put_in(self.FALL, (6,), values),), self.LOOK), right)
        promised = (*LOST[:2], (("f", ((0, 1, 3), (1, 0, -2))),))
        for value, right in ((-3, True), (-2, True), (-4, False), (-1, False)):
            told = ("refused", (put_in(self.FALL, (6,), (0, value)),), self.LOOK)
            self.assert_judged(promised, (0,), told, right)

    def test_values_at_an_open_with_lengths(self):
        program = program_of(("never",))
        look = ("look", (0, 0), 1, (0, 0, 0))
        for quality, values, right in (
            ((2, 0, 0), (0, 0, 1), True), ((2, 0, 0), (0, 0, 0), False), ((0, 2, 0), (0, 0, -1), False),
            ((0, 1, 0), (0, -1, 0), True), ((0, 1, 0), (0, -1, -1), False), ((0, 1, 0), (0, -1, 0, 0), False),
        ):
            fall = ("fall", 0, "pre", quality, (), -1, values)
            self.assert_judged(program, (0,), ("refused", (fall,), look), right)

    def test_falls_at_what_is_not_open(self):
        program = program_of(("never",), GIVE)
        look = ("look", (0, 0), 1, (0, 0, 0))
        fall = ("fall", 0, "pre", (0, 1, 0), (), -1, (0, -1, 0))
        self.assert_judged(program, (0,), ("refused", (fall,), look), True)
        for change in (("fall", 1), ("pre", 1), (-1, 0), (-1, -2), (-1, True), (0, 2), (0, -1), (0, False), ("pre", "post")):
            ahead, behind = change
            for at, part in enumerate(fall):
                if part == ahead:
                    self.assert_judged(program, (0,), ("refused", (put_in(fall, (at,), behind),), look), False)
        self.assert_judged(program, (0,), ("refused", (put_in(fall, (1,), 1),), look), False)
        self.assert_judged(program, (0,), ("refused", (put_in(fall, (4,), []),), look), False)

    def climbing(self):
        body = ("claim", ("most", X, ("num", 7)), ("let", "u", ("call", "f", (name("x", 1),)), ("give", name("u"))))
        return ("program", (fun("f", (("x", "int"),), body),), (("f", ((0, 1, 0), (1, 0, 0))),))

    def climb(self, c, value):
        return ("fall", 0, "pre", (1, 0, c), (0, 0), 1, (0, value, 0))

    def test_the_quality_itself_is_still_a_fact(self):
        # x at most 7 falls at the function's own call, where x is 7, but not 8.
        for value, right in ((7, True), (8, False), (6, False)):
            told = ("refused", (self.climb(7, value),), ("look", (0, 0), 0, (0, 8, 0)))
            self.assert_judged(self.climbing(), (7,), told, right)

    def test_what_has_not_fallen_ahead_is_a_fact(self):
        # With the numbers 6 and 7, x at most 6 stands until it falls.
        look = ("look", (0, 0), 0, (0, 8, 0))
        for falls, right in (
            ((self.climb(6, 6), self.climb(7, 7)), True), ((self.climb(7, 7), self.climb(6, 6)), False),
            ((self.climb(6, 7), self.climb(7, 7)), False), ((self.climb(7, 7),), False), ((self.climb(6, 6),), False),
            # The claim is a fact behind it: a value above 7 breaks it.
            ((self.climb(6, 6), self.climb(7, 8)), False),
        ):
            self.assert_judged(self.climbing(), (6, 7), ("refused", falls, look), right)

    def test_one_row_of_falls_is_as_good_as_another(self):
        call, other = [("call", "b", (("num", c), ("array", "r"))) for c in (1, -1)]
        body = ("if", ("most", X, ("len", "r", 0)), ("let", "u", call, GIVE), ("let", "u", other, GIVE))
        program = program_of(body, ("claim", ("most", ZERO, X), GIVE))
        a = ("fall", 0, "pre", (1, 0, 0), (), -1, (0, 1, 1))
        b = ("fall", 0, "pre", (1, 2, 0), (), -1, (0, 1, 0))
        c = ("fall", 1, "pre", (0, 1, 0), (0, 1), 2, (0, 1, 0, 0))
        d = ("fall", 1, "pre", (2, 1, 0), (0, 1), 2, (0, 1, 0, 0))
        e = ("fall", 1, "pre", (1, 0, 0), (0, 0), 2, (0, 0, 0, 0))
        look = ("look", (1, 0), 1, (0, -1, 0))
        for falls, right in (
            ((a, b, c, d), True), ((b, a, d, c), True), ((a, b, d, e, c), True), ((e, a, b, c, d), True),
            ((c, a, b, d), False), ((a, c, b, d), False), ((a, b, c), False), ((a, b, d), False), ((b, c, d), False),
            ((a, b, c, d, c), False), ((a, b, put_in(c, (4,), (0, 0)), d), False), ((a, b, put_in(c, (5,), 1), d), False),
            ((a, b, put_in(c, (1,), 0), d), False), ((a, b, put_in(c, (4, 0), 1), d), False), ([a, b, c, d], False),
        ):
            self.assert_judged(program, (0,), ("refused", falls, look), right)

    def test_falls_at_gives(self):
        program = program_of(("if", ("most", X, ZERO), ("give", X), ("never",)))
        look = ("look", (0, 1), 2, (0, 1, 0))
        free = tuple(("fall", 0, "pre", (i, j, 0), (), -1, values) for i, j, values in (
            (1, 0, (0, 1, 1)), (2, 1, (0, -1, 0)), (1, 2, (0, 2, 1)), (0, 1, (0, -1, 2)), (2, 0, (0, 0, 3)),
        ))
        fall = ("fall", 0, "post", (0, 3, 0), (0, 0), 2, (0, -1, 0))
        self.assert_judged(program, (0,), ("refused", (*free, fall), look), True)
        for at, part in ((1, 1), (2, "pre"), (3, (3, 0, 0)), (3, (1, 3, 0)), (3, (0, 3, 1)), (3, (0, 4, 0)), (4, (0, 1)),
                         (4, ()), (5, 1), (5, 0), (5, 3), (5, -1), (6, (0, 0, 0)), (6, (0, 1, 0)), (6, (0, -1, -1)),
                         (6, (0, -1)), (6, (0, -1, 0, 0)), (0, "look"), (3, [0, 3, 0]), (4, [0, 0]), (6, [0, -1, 0])):
            self.assert_judged(program, (0,), ("refused", (*free, put_in(fall, (at,), part)), look), False)
        self.assert_judged(program, (0,), ("refused", (*free, fall[:6]), look), False)
        self.assert_judged(program, (0,), ("refused", (*free, (*fall, 0)), look), False)
        self.assert_judged(program, (0,), ("refused", (*free, fall), put_in(look, (2,), 1)), False)
        self.assert_judged(program, (0,), ("refused", (fall, *free), look), False)

    def test_falls_of_a_function_at_the_give_of_another_one(self):
        program = program_of(("never",), ("give", X))
        look = ("look", (0, 0), 1, (0, 0, 0))
        fall = ("fall", 1, "post", (1, 2, 0), (1, 0), 1, (0, 1, 0))
        free = (("fall", 0, "pre", (0, 1, 0), (), -1, (0, -1, 0)),)
        for part, right in (("post", False), ("pre", False)):
            for g in (0, 1):
                told = ("refused", (*free, ("fall", 1, part, (1, 2, 0), (g, 0), 1, (0, 1, 0))), look)
                self.assert_judged(program, (0,), told, right)
        # Nothing calls b: all of its pre stands, among it that x is at most the length.
        self.assert_judged(program, (0,), ("refused", (fall,), look), False)

    def test_falls_of_post_at_a_call(self):
        call = ("call", "b", (name("x", 1), ("array", "r")))
        body = ("if", ("most", X, ("num", 5)), ("let", "u", call, GIVE), ("never",))
        program = program_of(body, GIVE)
        free = (("fall", 0, "pre", (1, 2, 0), (), -1, (0, 1, 0)), ("fall", 0, "pre", (1, 0, 0), (), -1, (0, 1, 1)))
        look = ("look", (0, 1), 2, (0, 6, 0))
        self.assert_judged(program, (0,), ("refused", free, look), True)
        for f, part, right in ((1, "pre", True), (1, "post", False), (0, "pre", False), (0, "post", False)):
            fall = ("fall", f, part, (1, 2, 0), (0, 0), 2, (0, 1, 0, 0))
            ends = ("fall", 1, "post", (1, 3, 0), (1, 0), 1, (0, 1, 1, 0))
            self.assert_judged(program, (0,), ("refused", (*free, fall), look), right)
            self.assert_judged(program, (0,), ("refused", (*free, put_in(fall, (3,), (1, 3, 0))), look), False)
            self.assert_judged(program, (0,), ("refused", (*free, ends), look), False)

    def test_a_look_at_what_is_none(self):
        call = ("call", "a", (name("x", 1), ("array", "r")))
        body = ("if", ("most", X, ZERO), ("let", "u", call, ("give", name("u"))), ("never",))
        # Items of the first path: the fact of the length, that of the if, the call, the give.
        for path, item, values in (((0, 0), 0, (0, 0, -1, 0)), ((0, 0), 1, (0, 1, 1, 0)), ((0, 0), 2, (0, 0, 0, 0)),
                                   ((0, 0), 3, (0, 0, 0, 0)), ((0, 1), 0, (0, 1, -1)), ((0, 1), 1, (0, 0, 0))):
            self.assert_judged(program_of(body), (), ("refused", (), ("look", path, item, values)), False)
        self.assert_judged(program_of(body), (), ("refused", (), ("look", (0, 1), 2, (0, 1, 0))), True)

    def test_values_for_each_unknown_of_the_path(self):
        body = ("claim", ("most", ZERO, X), ("let", "u", ("any",), ("let", "v", ("any",), GIVE)))
        program = program_of(body)
        for many in range(8):
            values = (0, -1, 0, 5, -5, 0, 0, 0)[:many]
            told = ("refused", (), ("look", (0, 0), 1, values))
            self.assert_judged(program, (), told, many == 5)

    def test_the_order_of_falls(self):
        told = paper(BOTH, (-1,))
        self.assert_judged(BOTH, (-1,), told, True)
        falls = told[1]
        rights = 0
        for at in range(len(falls)):
            without = (*falls[:at], *falls[at + 1:])
            right = naive.is_paper(BOTH, (-1,), ("refused", without, told[2]))
            self.assertIs(judge(BOTH, (-1,), ("refused", without, told[2])), right)
            rights += right
            for to in range(len(falls)):
                moved = (*without[:to], falls[at], *without[to:])
                right = naive.is_paper(BOTH, (-1,), ("refused", moved, told[2]))
                self.assertIs(judge(BOTH, (-1,), ("refused", moved, told[2])), right)
        self.assertIn(rights, range(1, len(falls)))

    def test_great_values(self):
        great = 10 ** 5000
        fall = put_in(self.FALL, (6,), (0, -great))
        self.assert_judged(LOST, (0,), ("refused", (fall,), ("look", (0, 0), 0, (0, -great))), True)
        self.assert_judged(LOST, (0,), ("refused", (put_in(self.FALL, (6,), (0, great)),), self.LOOK), False)

    def test_one_thing_changed(self):
        for program, numbers in ((LOST, (0,)), (BOTH, (-1,)), (DOWN, (1,))):
            self.assert_changes(program, numbers, paper(program, numbers))


class Wrong(Asks):
    def test_anything(self):
        for at, thing in enumerate([*JUNK, DEEP, [DEEP], (DEEP, DEEP, DEEP), "let", "refused"]):
            for program, numbers in ((EXAMPLE, (0,)), (EXAMPLE, (-1,)), (LOST, ())):
                with self.subTest(at):
                    self.assertIs(judge(program, numbers, thing), False)
                    for word in ("let", "refused", "table", "", None, 0, ("let",), DEEP):
                        self.assertIs(judge(program, numbers, (word, thing, thing)), False)
                        self.assertIs(judge(program, numbers, (word, thing)), False)
                        self.assertIs(judge(program, numbers, (word, (thing,), (thing, thing))), False)

    def test_anything_in_each_place(self):
        for program, numbers in ((EXAMPLE, (0,)), (LOST, (0,)), (UP, (7,))):
            told = paper(program, numbers)
            for place, part in places_in(told):
                for thing in (*JUNK, DEEP, [DEEP]):
                    changed = put_in(told, place, thing)
                    right = type(thing) is type(part) and naive.is_paper(program, numbers, changed)
                    self.assertIs(judge(program, numbers, changed), right, place)

    def test_papers_for_other_numbers(self):
        let = let_paper(EXAMPLE, ((((0, 2, 0),), ()), ((), ())))
        for numbers, right in (((0,), True), ((-1, 0), True), (SEVEN, True), ((), False), ((1,), False), ((-1, 1), False)):
            self.assert_judged(EXAMPLE, numbers, let, right)
        refused = paper(EXAMPLE, (-1,))
        for numbers, right in (((-1,), True), ((-1, 0), False), ((0,), False), ((-2,), False), ((), False)):
            self.assert_judged(EXAMPLE, numbers, refused, right)

    def test_papers_for_other_programs(self):
        rows = ((EXAMPLE, (0,)), (EXAMPLE, (-1,)), (BOTH, (-1,)), (BOTH, (-1, 0)), (DOWN, (0,)), (HALVES, (0,)), (LOST, (0,)))
        for at, (program, numbers) in enumerate(rows):
            told = paper(program, numbers)
            for other, (another, _) in enumerate(rows):
                if program != another:
                    with self.subTest((at, other)):
                        self.assert_judged(another, numbers, told, False)

    def test_never_both(self):
        """What is right for a program that is not let is wrong for one that is, and the other way round."""
        for seed in range(120):
            maker = Maker(seed)
            program, numbers = maker.program(), maker.numbers()
            less = (*program[:2], tuple((word, ()) for word, _ in program[2]))
            for one, other in ((program, less), (less, program)):
                told = paper(one, numbers)
                if is_let(one, numbers) != is_let(other, numbers):
                    self.assert_judged(other, numbers, told, False)

    def test_a_word_for_the_other(self):
        for program, numbers in ((EXAMPLE, (0,)), (EXAMPLE, (-1,))):
            word, first, second = paper(program, numbers)
            other = "refused" if word == "let" else "let"
            self.assert_judged(program, numbers, (other, first, second), False)
            self.assert_judged(program, numbers, (word, second, first), False)


class Great(Asks):
    def test_seven_numbers_and_many_calls(self):
        params = tuple((word, "int") for word in "vwxyz")
        body = ("give", name("z"))
        for at in range(30):
            arguments = tuple(name("vwxyz"[(at + step) % 5], step % 2) for step in range(5))
            body = ("let", "u", ("call", "f", arguments), body)
        body = ("if", ("most", name("v"), name("w")), ("give", name("v")), body)
        program = ("program", (fun("f", params, body),), (("f", ((0, 1, 0),)),))
        told = self.paper_of(program)
        self.assertEqual(told[0], "let")
        claim = ("claim", ("most", ZERO, name("v")), body)
        told = self.paper_of(("program", (fun("f", params, claim),), program[2]))
        self.assertEqual(told[0], "refused")

    def paper_of(self, program):
        told = paper(program, SEVEN)
        self.assertIs(judge(program, SEVEN, told), True)
        if told[0] == "refused":
            for _, _, _, _, path, _, values in told[1]:
                if path != ():
                    self.assertEqual(len(values), unknowns(program, *path))
        return told


if __name__ == "__main__":
    unittest.main()
