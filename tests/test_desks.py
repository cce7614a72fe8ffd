"""d1 to d4 and u1: desks, their deeds, their state, what can be taken back, and their report."""

import copy
import unittest

from claimfall.desks import Desk, replayed
from claimfall.errors import BadProgram, BadState, ClaimError
from claimfall.falling import is_let, strongest
from claimfall.least import needed
from claimfall.programs import check_program
from tests import naive_more
from tests.chance import Maker
from tests.samples import (
    BOTH, DEEP, DOWN, EXAMPLE, GIVE, HALVES, JUNK, LOST, MOST, ZERO, block, claims, fun, most_ways, name,
)

X = name("x")
SEVEN = (-100, -2, -1, 0, 1, 2, 100)
HALF = fun("f", (("x", "int"),), ("claim", ("most", ZERO, X), GIVE))
NONE = fun("g", (), GIVE)


def desk_of(program, numbers):
    desk = Desk(numbers)
    for function in program[1]:
        desk.put(function)
    for word, promises in program[2]:
        desk.let_in(word, promises)
    return desk


def held(desk):
    return desk.numbers, desk.functions, desk.opens, desk.log


class Asks(unittest.TestCase):
    def assert_refused(self, desk, word, *arguments):
        """A deed is refused, and nothing changed."""
        ahead = held(desk)
        kept = copy.copy(arguments)
        with self.assertRaises(BadState):
            getattr(desk, word)(*arguments)
        self.assertEqual(held(desk), ahead)
        self.assertEqual(len(arguments), len(kept))

    def assert_state(self, desk, state, *lines):
        """The state, and the report behind its first line."""
        self.assertEqual(desk.state(), state)
        head = f"functions {len(desk.functions)} opens {len(desk.opens)} numbers {len(desk.numbers)}\n"
        self.assertEqual(desk.report(), head + "".join(line + "\n" for line in lines))


class Deeds(Asks):
    def test_a_new_desk(self):
        for numbers in ((), (0,), SEVEN):
            desk = Desk(numbers)
            self.assertEqual(held(desk), (numbers, (), (), []))
            self.assert_state(desk, ("open",), "open")

    def test_each_deed_and_what_is_then(self):
        desk = Desk((0,))
        self.assertIsNone(desk.put(HALF))
        self.assertEqual((desk.functions, desk.opens), ((HALF,), ()))
        self.assert_state(desk, ("open",), "open")
        self.assertIsNone(desk.let_in("f", ()))
        self.assertEqual(desk.opens, (("f", ()),))
        self.assert_state(desk, ("refused",), "refused")
        self.assertIsNone(desk.let_in("f", ((0, 1, 0),)))
        self.assert_state(desk, ("let", 5), "let by 5", "f pre 0 <= x")
        self.assertIsNone(desk.set_numbers((1,)))
        self.assertEqual(desk.numbers, (1,))
        self.assert_state(desk, ("refused",), "refused")
        self.assertIsNone(desk.put(NONE))
        self.assertEqual(desk.functions, (HALF, NONE))
        self.assertIsNone(desk.set_numbers((-1, 0)))
        self.assertEqual(desk.state(), ("let", len(naive_more.triples(strongest(("program", (HALF, NONE), desk.opens), (-1, 0))))))
        self.assertIsNone(desk.shut("f"))
        self.assertEqual((desk.functions, desk.opens), ((HALF, NONE), ()))
        self.assert_state(desk, ("open",), "open")
        self.assertIsNone(desk.let_in("g", ()))
        self.assertIsNone(desk.drop("f"))
        self.assertEqual((desk.functions, desk.opens), ((NONE,), (("g", ()),)))
        self.assert_state(desk, ("let", 2), "let by 2")
        self.assertIsNone(desk.drop("g"))
        self.assertEqual((desk.functions, desk.opens), ((), ()))
        self.assert_state(desk, ("open",), "open")
        self.assertEqual(desk.log, [
            ("put", HALF), ("let_in", "f", ()), ("let_in", "f", ((0, 1, 0),)), ("set_numbers", (1,)), ("put", NONE),
            ("set_numbers", (-1, 0)), ("shut", "f"), ("let_in", "g", ()), ("drop", "f"), ("drop", "g"),
        ])

    def test_put_in_the_place_of_another_one(self):
        desk = desk_of(BOTH, (-1, 0))
        desk.let_in("entry", ())
        other = fun("entry", (("a", "array"), ("i", "int")), GIVE)
        desk.put(other)
        self.assertEqual(desk.functions, (other, BOTH[1][1]))
        self.assertEqual(desk.opens, (("first", ()), ("entry", ())))
        last = fun("first", (), GIVE)
        desk.put(last)
        self.assertEqual(desk.functions, (other, last))

    def test_put_in_the_place_of_one_with_other_params(self):
        desk = Desk((0,))
        desk.put(NONE)
        desk.put(HALF)
        desk.let_in("g", ())
        desk.let_in("f", ((0, 1, 0),))
        desk.put(fun("f", (), GIVE))
        # The open stays, its promise is none of the function as it is now.
        self.assertEqual(desk.opens, (("g", ()), ("f", ((0, 1, 0),))))
        self.assert_state(desk, ("bad", 1, "bad open"), "bad 1: bad open")
        self.assert_refused(desk, "let_in", "f", ((0, 1, 0),))
        desk.let_in("f", ())
        self.assertEqual(desk.state()[0], "let")
        desk.put(fun("f", (("x", "int"), ("y", "int")), GIVE))
        desk.let_in("f", ((2, 1, 0),))
        self.assertEqual(desk.state()[0], "let")
        self.assertEqual(desk.opens, (("g", ()), ("f", ((2, 1, 0),))))

    def test_drop_of_a_function_that_others_call(self):
        desk = desk_of(BOTH, (-1, 0))
        desk.drop("entry")
        self.assertEqual((desk.functions, desk.opens), (BOTH[1][1:], BOTH[2]))
        self.assert_state(desk, ("bad", 0, "unknown function"), "bad 0: unknown function")
        desk.put(BOTH[1][0])
        self.assertEqual(desk.functions, (BOTH[1][1], BOTH[1][0]))
        self.assertEqual(desk.state()[0], "let")

    def test_let_in_a_second_time(self):
        desk = desk_of(DOWN, (0,))
        desk.let_in("odd", ())
        self.assertEqual(desk.opens, (("odd", ()), ("even", ((0, 1, 0),))))
        desk.let_in("even", ((0, 1, 0), (0, 1, 0), (1, 0, -5)))
        self.assertEqual(desk.opens, (("odd", ()), ("even", ((0, 1, 0), (0, 1, 0), (1, 0, -5)))))
        desk.shut("odd")
        desk.let_in("odd", ((0, 1, 7),))
        self.assertEqual([word for word, _ in desk.opens], ["even", "odd"])

    def test_a_ninth_function(self):
        desk = Desk((0,))
        for word in "abcdefgh":
            desk.put(fun(word, (), GIVE))
        self.assert_refused(desk, "put", fun("i", (), GIVE))
        self.assert_refused(desk, "put", HALF[:3])
        desk.put(fun("c", (("x", "int"),), GIVE))
        self.assertEqual([function[1] for function in desk.functions], list("abcdefgh"))
        for word in "abcdefgh":
            desk.let_in(word, ())
        self.assertEqual(desk.state()[0], "let")
        desk.drop("a")
        desk.put(fun("i", (), GIVE))
        self.assertEqual([function[1] for function in desk.functions], list("bcdefghi"))
        self.assertEqual([word for word, _ in desk.opens], list("bcdefgh"))

    def test_numbers(self):
        desk = Desk((0,))
        for numbers in ((), (-100, 100), SEVEN, (3,)):
            desk.set_numbers(numbers)
            self.assertEqual(desk.numbers, numbers)
        for thing in ((-101,), (101,), (0, 0), (1, 0), (0, True), (False,), [0], (0, None), ("0",), (0, (1,)), *[t for t in JUNK if t != ()],
                      DEEP, (DEEP,), tuple(range(8)), None, 0, "", (0, 1, 2, 101)):
            self.assert_refused(desk, "set_numbers", thing)

    def test_names(self):
        desk = desk_of(BOTH, (0,))
        for thing in (*JUNK, DEEP, [DEEP], "f", "firs", "firstt", ["first"], ("first",), BOTH[1][1], "any"):
            self.assert_refused(desk, "drop", thing)
            self.assert_refused(desk, "shut", thing)
            self.assert_refused(desk, "let_in", thing, ())
        # A function that is there, but not open.
        self.assert_refused(desk, "shut", "entry")
        self.assert_refused(Desk(()), "drop", "entry")
        self.assert_refused(Desk(()), "let_in", "entry", ())

    def test_promises_of_a_function_as_it_is_now(self):
        desk = desk_of(EXAMPLE, (0,))
        for thing in (
            None, True, 0, "", [], [(0, 1, 0)], (0, 1, 0), ((0, 1),), ((0, 1, 0, 0),), ([0, 1, 0],), ((0, 0, 0),), ((0, 3, 0),),
            ((-1, 0, 0),), ((0, 1, True),), ((0, True, 0),), ((False, 1, 0),), ((0, 1, None),), ((0, 1, "0"),), ((0, 1, 0), None),
            ((0, 1, 0), (1, 1, 0)), DEEP, (DEEP,), ((0, 1, DEEP),), ("", ), ((),),
        ):
            self.assert_refused(desk, "let_in", "f", thing)
        desk.let_in("f", ((0, 1, 10 ** 40), (2, 1, -10 ** 40), (0, 2, 3), (0, 2, 3)))
        self.assert_refused(desk, "let_in", "g", ((0, 2, 0),))
        desk.let_in("g", ((0, 1, 0),))
        desk.put(fun("g", (("a", "array"), ("b", "array")), GIVE))
        desk.let_in("g", ((0, 2, 0),))


class Functions(Asks):
    """What put takes, and what it refuses."""

    def test_things_that_are_no_functions(self):
        desk = Desk((0,))
        right = ("fun", "f", (("x", "int"),), GIVE)
        desk.put(right)
        for thing in (
            *JUNK, DEEP, list(right), right[:3], (*right, GIVE), ("func", *right[1:]), (None, *right[1:]), ("fun", "abcdefghi", (), GIVE),
            ("fun", "", (), GIVE), ("fun", "F", (), GIVE), ("fun", None, (), GIVE), ("fun", ("f",), (), GIVE), ("fun", "f", [], GIVE),
            ("fun", "f", None, GIVE), ("fun", "f", (("x",),), GIVE), ("fun", "f", (("x", "float"),), GIVE), ("fun", "f", (["x", "int"],), GIVE),
            ("fun", "f", (("x", "int"), ("x", "array")), GIVE), ("fun", "f", tuple((word, "int") for word in "uvwxyz"), GIVE),
            ("fun", "f", (("x1", "int"),), GIVE), ("fun", "f", (DEEP,), GIVE), ("fun", DEEP, (), GIVE), ("fun", "f", DEEP, GIVE),
        ):
            self.assert_refused(desk, "put", thing)

    def test_bad_bodies(self):
        desk = Desk((0,))
        bad = (
            *JUNK[:-3], ("give",), ["give", ZERO], (True, "x"), DEEP, ("give", 0), ("give", ("num", True)), ("give", ("num", 0, 0)), ("give", ["num", 0]),
            ("give", ("name", "x")), ("give", ("name", "X", 0)), ("give", ("array", "x")), ("never", 0), ("let", "u", ZERO), ("let", "U", ZERO, GIVE),
            ("let", "u", ("any", 0), GIVE), ("let", "u", ("call", "f", []), GIVE), ("let", "u", ("call", "f", (0,)), GIVE),
            ("let", "u", ("call", "toolongname", ()), GIVE), ("if", MOST, GIVE), ("if", ("less", ZERO, ZERO), GIVE, GIVE), ("claim", GIVE),
            ("put", "r", ZERO, GIVE), ("put", "r", ZERO, ("any",), GIVE), ("let", "u", ("middle", ZERO), GIVE), ("let", "u", ("at", "r", "x"), GIVE),
            ("claim", MOST, GIVE, GIVE), ("give", DEEP), ("claim", ("most", ZERO, DEEP), GIVE),
        )
        for body in bad:
            for whole in (
                body, ("claim", MOST, body), ("if", MOST, GIVE, body), ("if", MOST, body, GIVE), ("let", "u", ZERO, body), ("put", "r", ZERO, ZERO, body),
                claims(40, ("if", MOST, GIVE, ("if", MOST, claims(5, body), GIVE))),
            ):
                self.assert_refused(desk, "put", ("fun", "f", (), whole))

    def test_deep_bodies(self):
        desk = Desk((0,))
        for deep, inner in ((59, GIVE), (59, ("never",)), (58, ("if", MOST, GIVE, GIVE))):
            desk.put(fun("f", (), claims(deep, inner)))
            self.assert_refused(desk, "put", fun("f", (), claims(deep + 1, inner)))
        self.assert_refused(desk, "put", fun("f", (), claims(500)))
        self.assert_refused(desk, "put", fun("f", (), ("if", MOST, GIVE, claims(59))))

    def test_what_only_the_state_tells(self):
        params = (("x", "int"), ("r", "array"))
        for body, reason in (
            (("give", name("y")), "unknown name"), (("give", name("r")), "unknown name"), (("give", ("len", "x", 0)), "unknown name"),
            (("let", "u", ("call", "k", ()), GIVE), "unknown function"), (("let", "u", ("call", "f", ()), GIVE), "wrong arguments"),
            (("let", "u", ("call", "f", (X, X)), GIVE), "wrong arguments"), (("let", "r", ZERO, GIVE), "name is an array"),
            (most_ways(201), "too many paths"), (block(2001), "bad body"),
        ):
            desk = Desk((0,))
            desk.put(NONE)
            desk.put(fun("f", params, body))
            self.assert_state(desk, ("open",), "open")
            desk.let_in("g", ())
            self.assert_state(desk, ("bad", 1, reason), f"bad 1: {reason}")
            desk.put(fun("f", params, GIVE))
            self.assertEqual(desk.state()[0], "let")
        desk = Desk((0,))
        desk.put(fun("f", params, block(2000)))
        desk.put(fun("h", params, most_ways(200)))
        desk.let_in("f", ())
        self.assertEqual(desk.state()[0], "let")

    def test_the_state_tells_what_check_program_does(self):
        # The first fault of several.
        desk = Desk((0,))
        desk.put(fun("f", (), ("give", X)))
        desk.put(fun("g", (), ("let", "u", ("call", "k", ()), GIVE)))
        desk.put(HALF)
        desk.let_in("f", ())
        self.assertEqual(desk.state()[0], "bad")
        with self.assertRaises(BadProgram) as caught:
            check_program(("program", desk.functions, desk.opens))
        self.assertEqual(desk.state(), ("bad", caught.exception.function, caught.exception.reason))


class TakenBack(Asks):
    def test_undo_of_each_deed(self):
        desk = Desk((0,))
        deeds = [("put", HALF), ("put", NONE), ("let_in", "f", ()), ("let_in", "g", ()), ("let_in", "f", ((0, 1, 0),)), ("set_numbers", (-1, 1)),
                 ("put", fun("f", (), GIVE)), ("shut", "g"), ("drop", "f")]
        before = []
        for word, *arguments in deeds:
            before.append(held(desk))
            getattr(desk, word)(*arguments)
        self.assertEqual(desk.log, deeds)
        for ahead, (word, *_) in zip(reversed(before), reversed(deeds)):
            self.assertEqual(desk.undo(), word)
            self.assertEqual(held(desk), ahead)
        for _ in range(2):
            self.assertIs(desk.undo(), False)
            self.assertEqual(held(desk), ((0,), (), (), []))

    def test_undo_behind_deeds_that_were_refused(self):
        desk = Desk((0,))
        self.assertIs(desk.undo(), False)
        self.assert_refused(desk, "drop", "f")
        self.assertIs(desk.undo(), False)
        desk.put(HALF)
        desk.put(NONE)
        self.assert_refused(desk, "put", HALF[:3])
        self.assert_refused(desk, "set_numbers", (1, 0))
        self.assert_refused(desk, "shut", "f")
        self.assertEqual(desk.undo(), "put")
        self.assertEqual(desk.functions, (HALF,))

    def test_undo_and_then_something_else(self):
        desk = Desk((0,))
        desk.put(HALF)
        desk.let_in("f", ())
        self.assertEqual(desk.undo(), "let_in")
        desk.let_in("f", ((0, 1, 0),))
        self.assertEqual(desk.log, [("put", HALF), ("let_in", "f", ((0, 1, 0),))])
        self.assertEqual(desk.undo(), "let_in")
        self.assertEqual(desk.opens, ())
        self.assertEqual(desk.undo(), "put")

    def test_deeds_that_change_nothing_are_deeds(self):
        desk = desk_of(BOTH, (0,))
        many = len(desk.log)
        desk.put(BOTH[1][0])
        desk.let_in("first", ())
        desk.set_numbers((0,))
        self.assertEqual(len(desk.log), many + 3)
        self.assertEqual([desk.undo(), desk.undo(), desk.undo()], ["set_numbers", "let_in", "put"])
        self.assertEqual(desk, desk_of(BOTH, (0,)))

    def test_a_log_that_is_changed(self):
        desk = desk_of(BOTH, (0,))
        log = desk.log
        self.assertIs(type(log), list)
        self.assertIsNot(desk.log, log)
        kept = list(log)
        log.clear()
        self.assertEqual(desk.log, kept)
        log.append(("drop", "first"))
        self.assertEqual((desk.log, desk.undo()), (kept, "let_in"))

    def test_replayed(self):
        desk = Desk((0,))
        desk.set_numbers((-1, 0))
        for word in ("f", "g"):
            desk.put(fun(word, (("x", "int"),), ("give", X)))
        desk.let_in("g", ((0, 1, 0),))
        desk.put(fun("f", (), GIVE))
        other = replayed((0,), desk.log)
        self.assertIs(type(other), Desk)
        self.assertEqual(held(other), held(desk))
        self.assertEqual(other, desk)
        self.assertEqual(held(replayed((5,), [])), ((5,), (), (), []))
        # What was taken back is not done again.
        desk.undo()
        again = replayed((0,), desk.log)
        self.assertEqual(again, desk)
        self.assertNotEqual(again, other)
        self.assertEqual([again.undo() for _ in range(5)], ["let_in", "put", "put", "set_numbers", False])

    def test_replayed_with_a_deed_that_is_refused(self):
        log = [("put", HALF), ("put", NONE), ("shut", "f"), ("drop", "k")]
        with self.assertRaises(BadState):
            replayed((0,), log)
        self.assertEqual(held(replayed((0,), log[:2])), ((0,), (HALF, NONE), (), log[:2]))
        for last in (("put", HALF[:2]), ("let_in", "k", ()), ("let_in", "f", ((0, 0, 0),)), ("drop", "k"), ("set_numbers", (1, 0))):
            with self.assertRaises(BadState):
                replayed((0,), [*log[:2], last])
        self.assertEqual(log, [("put", HALF), ("put", NONE), ("shut", "f"), ("drop", "k")])
        with self.assertRaises(BadState):
            replayed((0,), [("open", "f")])

    def test_branch(self):
        desk = desk_of(BOTH, (0,))
        other = desk.branch()
        self.assertIsNot(other, desk)
        self.assertIs(type(other), Desk)
        self.assertEqual(held(other), held(desk))
        other.set_numbers((-1, 0))
        self.assertEqual((desk.numbers, other.numbers), ((0,), (-1, 0)))
        self.assertEqual((desk.state(), other.state()[0]), (("refused",), "let"))
        self.assertEqual([other.undo() for _ in range(5)], ["set_numbers", "let_in", "put", "put", False])
        self.assertEqual(held(desk), held(desk_of(BOTH, (0,))))
        desk.drop("first")
        self.assertEqual(held(other), ((0,), (), (), []))
        third = desk.branch()
        self.assertEqual(desk.undo(), "drop")
        self.assertEqual((len(desk.functions), len(third.functions)), (2, 1))
        self.assertEqual(third.undo(), "drop")
        self.assertEqual(third, desk)

    def test_by_chance(self):
        words = {}
        for seed in range(120):
            maker = Maker(seed)
            program = maker.program(functions=4, depth=3)
            desk, rows = Desk((0,)), []
            for _ in range(25):
                deed = maker.chance.choice((
                    ("put", maker.chance.choice(program[1])), ("put", maker.chance.choice(program[1])), ("drop", maker.chance.choice("abcd")),
                    ("let_in", maker.chance.choice("abcd"), maker.promises(maker.chance.randrange(len(program[1])))),
                    ("shut", maker.chance.choice("abcd")), ("set_numbers", maker.numbers()), ("undo",), ("put", None),
                ))
                ahead = held(desk)
                if deed == ("undo",):
                    told = desk.undo()
                    if rows:
                        self.assertEqual((held(desk), told), rows.pop())
                    else:
                        self.assertEqual((held(desk), told), (ahead, False))
                else:
                    try:
                        getattr(desk, deed[0])(*deed[1:])
                        rows.append((ahead, deed[0]))
                        self.assertEqual(desk.log, [*ahead[3], deed])
                    except BadState:
                        self.assertEqual(held(desk), ahead)
                words[desk.state()[0]] = True
                self.assertEqual(replayed((0,), desk.log), desk)
        self.assertEqual(sorted(words), ["bad", "let", "open", "refused"])


class Same(Asks):
    def test_other_logs(self):
        desk, other = desk_of(BOTH, (0,)), Desk((5,))
        self.assertFalse(desk == other)
        self.assertTrue(desk != other)
        other.put(fun("entry", (), GIVE))
        other.put(BOTH[1][1])
        other.put(BOTH[1][0])
        other.let_in("first", ((0, 1, 0),))
        other.let_in("first", ())
        self.assertNotEqual(desk, other)
        other.set_numbers((0,))
        self.assertTrue(desk == other)
        self.assertFalse(desk != other)
        self.assertNotEqual(desk.log, other.log)

    def test_other_numbers_functions_and_opens(self):
        desk = desk_of(DOWN, (0,))
        self.assertEqual(desk, desk_of(DOWN, (0,)))
        self.assertNotEqual(desk, desk_of(DOWN, (1,)))
        self.assertNotEqual(desk, desk_of((*DOWN[:2], DOWN[2][::-1]), (0,)))
        self.assertNotEqual(desk, desk_of(("program", DOWN[1][::-1], DOWN[2]), (0,)))
        self.assertNotEqual(desk, desk_of((*DOWN[:2], DOWN[2][:1]), (0,)))
        self.assertNotEqual(desk, desk_of((*DOWN[:2], (("odd", ()), DOWN[2][1])), (0,)))

    def test_what_is_no_desk(self):
        desk = Desk((0,))
        for thing in (None, 0, (0,), ((0,), (), ()), "desk", [], object(), Desk):
            self.assertIs(desk.__eq__(thing), NotImplemented)
            self.assertFalse(desk == thing)
            self.assertTrue(desk != thing)

    def test_no_hash(self):
        with self.assertRaises(TypeError):
            hash(Desk((0,)))

    def test_no_setters(self):
        desk = Desk((0,))
        for word in ("numbers", "functions", "opens", "log"):
            self.assertIsInstance(getattr(Desk, word), property)
            self.assertIsNone(getattr(Desk, word).fset)
            with self.assertRaises(AttributeError):
                setattr(desk, word, ())


class Reports(Asks):
    def test_open(self):
        desk = Desk((0, 1))
        self.assertEqual(desk.report(), "functions 0 opens 0 numbers 2\nopen\n")
        desk.put(HALF)
        self.assertEqual(desk.report(), "functions 1 opens 0 numbers 2\nopen\n")
        # Without an open nothing is looked at.
        desk.put(fun("f", (), ("give", X)))
        self.assertEqual(desk.report(), "functions 1 opens 0 numbers 2\nopen\n")
        desk.drop("f")
        self.assertEqual(desk.report(), "functions 0 opens 0 numbers 2\nopen\n")

    def test_samples(self):
        for program, numbers, text in (
            (EXAMPLE, (0,), "functions 2 opens 1 numbers 1\nlet by 15\nf pre 0 <= x\n"),
            (EXAMPLE, (-1,), "functions 2 opens 1 numbers 1\nrefused\n"),
            (EXAMPLE, (), "functions 2 opens 1 numbers 0\nrefused\n"),
            (BOTH, (-1, 0), "functions 2 opens 1 numbers 2\nlet by {}\nentry pre 0 <= i\nentry pre i <= len a - 1\n"),
            (DOWN, (0,), "functions 2 opens 2 numbers 1\nlet by 6\neven pre 0 <= n\n"),
            (LOST, SEVEN, "functions 1 opens 1 numbers 7\nrefused\n"),
            (HALVES, (0,), "functions 2 opens 1 numbers 1\nlet by {}\nfind pre 0 <= low\nfind pre high <= len a\n"),
        ):
            many = len(naive_more.triples(strongest(program, numbers)))
            self.assertEqual(desk_of(program, numbers).report(), text.format(many))

    def test_post_and_result(self):
        functions = (
            fun("g", (), ("let", "u", ("call", "f", (ZERO, ZERO)), ("claim", ("most", name("u"), ("num", 7)), GIVE))),
            fun("f", (("result", "int"), ("r", "int")), ("give", name("result", 5))),
        )
        desk = desk_of(("program", functions, (("g", ()),)), (5, 6))
        self.assertEqual(desk.report().split("\n")[2:], ["f post result <= result + 6", ""])
        desk.let_in("f", ())
        desk.put(fun("f", (("result", "int"), ("r", "int")), ("claim", ("most", ("num", -6), name("result")), ("give", name("result", 5)))))
        desk.let_in("f", ((0, 1, 6),))
        lines = desk.report().split("\n")
        self.assertEqual(lines[0], "functions 2 opens 2 numbers 2")
        self.assertEqual(lines[2:], ["f pre 0 <= result + 6", "f post result <= result + 6", ""])

    def test_numbers_above_and_below_nought(self):
        body = ("claim", ("most", ("num", 3), X), ("claim", ("most", X, ("len", "r", 2)), GIVE))
        params = (("x", "int"), ("r", "array"))
        desk = desk_of(("program", (fun("f", params, body),), (("f", ((0, 1, -3), (1, 2, 2))),)), (-3, 2))
        self.assertEqual(desk.report().split("\n")[2:], ["f pre 0 <= x - 3", "f pre x <= len r + 2", ""])

    def test_bad(self):
        desk = desk_of(BOTH, (0,))
        desk.put(fun("first", (("a", "array"),), ("give", name("y"))))
        self.assertEqual(desk.report(), "functions 2 opens 1 numbers 1\nbad 1: unknown name\n")

    def test_by_chance(self):
        lines = {}
        for seed in range(200):
            maker = Maker(seed)
            program, numbers = maker.program(), maker.numbers()
            desk = desk_of(program, numbers)
            with self.subTest(seed):
                kept = naive_more.triples(strongest(program, numbers))
                told = [f"functions {len(program[1])} opens {len(program[2])} numbers {len(numbers)}"]
                if is_let(program, numbers):
                    self.assertEqual(desk.state(), ("let", len(kept)))
                    told.append(f"let by {len(kept)}")
                    for f, part, (i, j, c) in naive_more.triples(needed(program, numbers)):
                        _, word, params, _ = program[1][f]
                        names = ["0", *["len " + x if kind == "array" else x for x, kind in params], "result"]
                        more = "" if c == 0 else f" + {c}" if c > 0 else f" - {-c}"
                        told.append(f"{word} {'post' if part else 'pre'} {names[i]} <= {names[j]}{more}")
                else:
                    self.assertEqual(desk.state(), ("refused",))
                    told.append("refused")
                self.assertEqual(desk.report(), "\n".join(told) + "\n")
                lines[len(told)] = True
        self.assertGreater(len(lines), 4)


class Wrong(Asks):
    def test_one_thing_changed(self):
        """Whatever is made of a right deed, it is a right one or BadState is raised."""
        rows = (("put", BOTH[1][0]), ("drop", "entry"), ("let_in", "entry", ((0, 2, 0), (2, 1, -1))), ("shut", "first"), ("set_numbers", (-1, 0)))
        for word, *arguments in rows:
            done = 0
            for other in self.changed(tuple(arguments)):
                if type(other) is tuple and len(other) == len(arguments):
                    desk = desk_of(BOTH, (0,))
                    ahead = held(desk)
                    try:
                        self.assertIsNone(getattr(desk, word)(*other))
                        self.assertEqual(desk.log[-1], (word, *other))
                        self.assert_right(desk)
                        done += 1
                    except BadState:
                        self.assertEqual(held(desk), ahead)
            self.assertLess(done, 60)

    def changed(self, thing):
        """All that comes of a thing by one change at some place in it."""
        for other in (None, True, False, 0, 1, -1, "", "x", "entry", "give", (), [], DEEP, (thing,), [thing]):
            yield other
        if isinstance(thing, tuple):
            yield list(thing)
            for at, part in enumerate(thing):
                yield (*thing[:at], *thing[at + 1:])
                yield (*thing[:at], part, *thing[at:])
                for other in self.changed(part):
                    yield (*thing[:at], other, *thing[at + 1:])

    def assert_right(self, desk):
        """What a desk holds is made of tuples, strings and integers, and its state can be told."""
        def look_at(thing):
            self.assertIn(type(thing), (tuple, str, int))
            for part in thing if isinstance(thing, tuple) else ():
                look_at(part)

        look_at((desk.numbers, desk.functions, desk.opens))
        self.assertIn(desk.state()[0], ("open", "bad", "let", "refused"))
        self.assertTrue(desk.report().endswith("\n"))

    def test_the_errors_are_those_of_claimfall(self):
        with self.assertRaises(ClaimError):
            Desk(()).drop("f")


if __name__ == "__main__":
    unittest.main()
