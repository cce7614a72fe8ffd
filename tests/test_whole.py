"""What the document promises over the whole program: u0, k2, k4, k5, j3, g2, s2, m2, r4, r5 and r7."""

import unittest

from claimfall.ages import ages
from claimfall.assignments import candidates, is_kept
from claimfall.causes import cause, judge_cause
from claimfall.desks import Desk
from claimfall.falling import is_let, strongest, strongest_within
from claimfall.least import judge_table, needed, number_table, short, table_paper
from claimfall.measures import rank_of, rings
from claimfall.papers import judge, paper
from claimfall.paths import paths
from claimfall.programs import check_program, index_of
from claimfall.runs import broken, broken_within, check_call, run, trail, wrong_call
from claimfall.slices import part_of, parts, sliced
from claimfall.texts import format_program, read_program
from tests import naive_more, naive_runs
from tests.chance import Maker
from tests.samples import BOTH, DOWN, EXAMPLE, HALVES, LOST

PARTS = ("pre", "post")
SEVEN = (-100, -2, -1, 0, 1, 2, 100)


def fulfils(values, fact):
    """Whether values fulfil a fact, as far as they are there."""
    i, j, c = fact
    return i >= len(values) or j >= len(values) or None in (values[i], values[j]) or values[i] <= values[j] + c


def as_fact(quality, terms):
    i, j, c = quality
    return terms[i][0], terms[j][0], c + terms[j][1] - terms[i][1]


class Runs(unittest.TestCase):
    """Programs by chance, with the calls within small bounds."""

    def some(self, seeds, params=2, depth=5):
        for seed in range(seeds):
            maker = Maker(seed)
            program, numbers = maker.program(params=params, depth=depth), maker.numbers()
            bounds = (-1, 1, 1, 1, 40)
            if len(naive_runs.calls_within(program, bounds)) <= 300:
                with self.subTest(seed):
                    yield maker, program, numbers, bounds

    def test_wherever_a_call_goes_wrong_the_paper_is_a_refused_one(self):
        wrong = let = 0
        for _, program, numbers, bounds in self.some(300):
            found = wrong_call(program, bounds)
            if found is not None:
                wrong += 1
                call, end = found
                check_call(program, call)
                self.assertEqual(run(program, call, bounds[4])[0], end)
                self.assertEqual(paper(program, numbers)[0], "refused")
                self.assertEqual(number_table(program, numbers)[0], ())
            let += is_let(program, numbers)
        self.assertGreater(wrong, 50)
        self.assertGreater(let, 30)

    def test_what_is_let_goes_wrong_in_no_run(self):
        ends = {}
        for maker, program, numbers, _ in self.some(250):
            if is_let(program, numbers):
                for call in self.calls_of(maker, program):
                    ends[run(program, call, 300)[0][0]] = True
        self.assertEqual(sorted(ends), ["gives", "long", "waits"])

    def calls_of(self, maker, program):
        """Some calls that keep their promises."""
        found = []
        for word, _ in program[2]:
            for _ in range(30):
                arguments = tuple(
                    maker.chance.randint(-9, 9) if kind == "int" else self.array(maker)
                    for _, kind in program[1][index_of(program, word)][2]
                )
                call = ("call", word, arguments, self.array(maker))
                if naive_runs.keeps(program, call):
                    check_call(program, call)
                    found.append(call)
        return found

    def array(self, maker):
        return tuple(maker.chance.randint(-5, 5) for _ in range(maker.chance.randint(0, 5)))

    def test_what_runs_break_no_kept_assignment_has(self):
        many = 0
        for maker, program, numbers, bounds in self.some(200):
            gone = set(naive_more.triples(broken_within(program, numbers, bounds)))
            kept = set(naive_more.triples(strongest(program, numbers)))
            within = set(naive_more.triples(strongest_within(program, maker.part_of(program, numbers))))
            self.assertEqual(gone & kept, set())
            self.assertEqual(gone & within, set())
            many += len(gone)
            # So each of them has a cause.
            for f, part, quality in maker.chance.sample(sorted(gone), min(len(gone), 2)):
                self.assertTrue(judge_cause(program, numbers, cause(program, numbers, f, PARTS[part], quality)))
        self.assertGreater(many, 1000)

    def test_the_values_of_trails_fulfil_the_facts(self):
        acts = 0
        for maker, program, numbers, _ in self.some(250):
            for kept in (strongest(program, numbers), strongest_within(program, maker.part_of(program, numbers))):
                for call in self.calls_of(maker, program)[:12]:
                    told = trail(program, call, 60)
                    acts += len(told)
                    for _, f, path, values in told:
                        self.assert_fulfilled(program, kept, f, path, values)
        self.assertGreater(acts, 2000)

    def assert_fulfilled(self, program, kept, f, path, values):
        for quality in kept[f][0]:
            self.assertTrue(fulfils(values, quality))
        if path == -1:
            return
        # It has given, and so has all that it called, and each look was passed.
        for item in paths(program, f)[path]:
            if item[0] in ("fact", "look"):
                self.assertTrue(fulfils(values, item[1:]))
            if item[0] == "call":
                _, word, terms, result = item
                self.assertIsNotNone(values[result])
                for quality in kept[index_of(program, word)][1]:
                    self.assertTrue(fulfils(values, as_fact(quality, [(0, 0), *terms, (result, 0)])))
            if item[0] == "give":
                places = [(place, 0) for place in range(len(program[1][f][2]) + 1)]
                for quality in kept[f][1]:
                    self.assertTrue(fulfils(values, as_fact(quality, [*places, item[1:]])))

    def test_the_values_of_trails_that_have_not_given(self):
        """Some path of the function begins with the facts that are there so far."""
        for maker, program, numbers, _ in self.some(120):
            kept = strongest(program, numbers)
            for call in self.calls_of(maker, program)[:12]:
                for _, f, path, values in trail(program, call, 9):
                    if path == -1:
                        self.assertTrue(any(
                            self.can_stand(program, kept, items, values) for items in paths(program, f)
                        ))

    def can_stand(self, program, kept, items, values):
        """Whether the values fulfil the facts of items on which all unknowns are there, up to a first look that is not passed."""
        for item in items:
            if item[0] == "call" and (item[3] >= len(values) or values[item[3]] is None):
                return True
            if item[0] == "call":
                terms = [(0, 0), *item[2], (item[3], 0)]
                if not all(fulfils(values, as_fact(q, terms)) for q in kept[index_of(program, item[1])][1]):
                    return False
            if item[0] == "look" and not fulfils(values, item[1:]):
                return True
            if item[0] == "fact" and not fulfils(values, item[1:]):
                return False
        return True

    def test_activations_of_a_ring_within_one_another(self):
        deep = ranked = 0
        for maker, program, numbers, _ in self.some(600, depth=6):
            if rings(program) and is_let(program, numbers):
                rank = rank_of(program, numbers)
                if rank is not None:
                    ranked += 1
                    for call in self.calls_of(maker, program)[:20]:
                        deep = max(deep, self.assert_bounded(program, rank, trail(program, call, 200)))
        for program, numbers, call in (
            (HALVES, (0,), ("call", "all", (tuple(range(50)), 20), ())), (DOWN, (0,), ("call", "odd", (60,), ())),
            (EXAMPLE, (0,), ("call", "g", ((1,) * 40,), ())),
        ):
            deep = max(deep, self.assert_bounded(program, rank_of(program, numbers), trail(program, call, 1000)))
        self.assertGreater(ranked, 10)
        self.assertGreater(deep, 20)

    def assert_bounded(self, program, rank, acts):
        """No more than M + 2 within one another, or 1 if M is below 0; from the trail of a run, each call from its act on."""
        home = {f: ring for ring in rings(program) for f in ring}
        most = 0
        for stack in self.stacks(program, acts):
            for at, (f, values) in enumerate(stack):
                if f in home and not any(g in home[f] for g, _ in stack[:at]):
                    many = sum(g in home[f] for g, _ in stack)
                    i, j = rank[f]
                    measure = values[i] - values[j]
                    self.assertLessEqual(many, 1 if measure < 0 else measure + 2)
                    most = max(most, many)
        return most

    def stacks(self, program, acts):
        """What stands within one another whenever an activation begins, found out from a trail."""
        stack = []
        for _, f, path, values in acts:
            while stack and stack[-1][2] == 0:
                stack.pop()
            if stack:
                stack[-1][2] -= 1
            stack.append([f, values, self.calls_begun(program, f, path, values)])
            yield [(g, numbers) for g, numbers, _ in stack]

    def calls_begun(self, program, f, path, values):
        """How many calls an activation has begun."""
        if path != -1:
            return sum(item[0] == "call" for item in paths(program, f)[path])
        # It stands at a call, or at none: so many calls are on each path on which it can be.
        counts = {
            sum(item[0] == "call" and item[3] < len(values) for item in items)
            for items in paths(program, f) if self.is_on(items, values)
        }
        return max(counts)

    def is_on(self, items, values):
        for item in items:
            if item[0] == "fact" and max(item[1:3]) < len(values) and not fulfils(values, item[1:]):
                return False
        return True


class Whole(unittest.TestCase):
    def test_by_chance(self):
        """One program after another, as a text, in slices and parts, with its papers, tables, causes and desk."""
        words = {}
        for seed in range(120):
            maker = Maker(seed)
            program, numbers = maker.program(functions=4), maker.numbers()
            with self.subTest(seed):
                check_program(program)
                self.assertEqual(read_program(format_program(program)), program)
                kept = strongest(program, numbers)
                self.assertTrue(is_kept(program, kept))
                told = paper(program, numbers)
                words[told[0]] = True
                self.assertTrue(judge(program, numbers, told))
                self.assertIs(is_let(program, numbers), told[0] == "let")
                self.assertTrue(judge_table(program, numbers, table_paper(program, numbers)))
                self.look_at_desk(program, numbers, told[0])
                if told[0] == "let":
                    self.assertTrue(is_let(sliced(program), numbers))
                    self.assertTrue(judge(program, numbers, paper(program, numbers)))
                    self.assertLessEqual(set(naive_more.triples(needed(program, numbers))), set(naive_more.triples(kept)))
                else:
                    self.assertTrue(judge(program, numbers, short(program, numbers)))
        self.assertEqual(sorted(words), ["let", "refused"])

    def look_at_desk(self, program, numbers, word):
        desk = Desk(numbers)
        for function in program[1]:
            desk.put(function)
        for name, promises in program[2]:
            desk.let_in(name, promises)
        self.assertEqual(("program", desk.functions, desk.opens), program)
        self.assertEqual(desk.state()[0], word)

    def test_never_both_papers(self):
        # A refused paper of a program is none of one that is let, and the other way round.
        for program, fewer, more in ((EXAMPLE, (-1,), (-1, 0)), (BOTH, (0,), (-1, 0)), (DOWN, (1,), (0, 1)), (HALVES, (-1, 1), (-1, 0, 1))):
            refused, let = paper(program, fewer), paper(program, more)
            self.assertEqual((refused[0], let[0]), ("refused", "let"))
            self.assertEqual([judge(program, numbers, refused) for numbers in (fewer, more)], [True, False])
            self.assertEqual([judge(program, numbers, let) for numbers in (fewer, more)], [False, True])

    def test_ages_tell_how_many_falls_a_cause_has(self):
        for program, numbers in ((EXAMPLE, (0,)), (DOWN, (0, 1)), (LOST, SEVEN), (BOTH, (-1, 0)), (HALVES, (0,))):
            told = ages(program, numbers)
            for f, pair in enumerate(candidates(program, numbers)):
                for part in (0, 1):
                    for quality, age in zip(pair[part], told[f][part]):
                        if age is not None:
                            falls = cause(program, numbers, f, PARTS[part], quality)[1]
                            self.assertGreaterEqual(len(falls) - 1, age)

    def test_parts_by_themselves(self):
        for seed in range(80):
            maker = Maker(seed)
            program, numbers = maker.program(functions=5, depth=4), maker.numbers()
            opens = [index_of(program, word) for word, _ in program[2]]
            apart = [part_of(program, part) for part in parts(program) if any(f in part for f in opens)]
            closed = [part for part in parts(program) if not any(f in part for f in opens)]
            if not closed:
                self.assertIs(is_let(program, numbers), all(is_let(part, numbers) for part in apart))

    def test_broken_by_one_run_is_broken_within_bounds(self):
        for seed in range(60):
            maker = Maker(seed)
            program, numbers = maker.program(params=1), maker.numbers()
            bounds = (-1, 1, 2, 1, 30)
            told = set(naive_more.triples(broken_within(program, numbers, bounds)))
            seen = set()
            for call in naive_runs.calls_within(program, bounds):
                if naive_runs.keeps(program, call):
                    seen |= set(naive_more.triples(broken(program, numbers, call, 30)))
            self.assertEqual(told, seen)


if __name__ == "__main__":
    unittest.main()
