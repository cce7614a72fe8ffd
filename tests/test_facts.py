"""q1 to q3 and u1: facts, rounds, chains, what follows, and numbers."""

import copy
import itertools
import random
import unittest

from claimfall.facts import against, chain, clash, fulfil, numbers_for, proves
from tests.naive import is_chain, is_round, least_sums
from tests.samples import DEEP, JUNK

HUGE = 10 ** 5000


class Asks(unittest.TestCase):
    """Asks all that there is to ask about facts, and sees that the answers fit."""

    def assert_clash(self, facts, many):
        loop = clash(facts)
        self.assertIsInstance(loop, tuple)
        self.assertTrue(is_round(facts, loop))
        self.assertIsNone(numbers_for(facts, many))

    def assert_numbers(self, facts, many):
        self.assertIsNone(clash(facts))
        self.assert_fulfil(numbers_for(facts, many), facts, many)

    def assert_fulfil(self, values, facts, many):
        self.assertIsInstance(values, tuple)
        self.assertEqual(len(values), many)
        self.assertEqual(values[0], 0)
        self.assertTrue(all(values[i] <= values[j] + c for i, j, c in facts))
        self.assertIs(fulfil(values, facts), True)

    def assert_follows(self, facts, fact, many):
        told = chain(facts, fact)
        self.assertIsInstance(told, tuple)
        self.assertTrue(is_round(facts, told) if clash(facts) else is_chain(facts, fact, told))
        self.assertIs(proves(facts, fact, told), True)
        self.assertIsNone(against(facts, fact, many))

    def assert_does_not_follow(self, facts, fact, many):
        self.assertIsNone(chain(facts, fact))
        values = against(facts, fact, many)
        self.assert_fulfil(values, facts, many)
        self.assertIs(fulfil(values, (fact,)), False)


class Clashes(Asks):
    def test_no_facts_do_not_clash(self):
        self.assert_numbers((), 1)
        self.assertEqual(numbers_for((), 1), (0,))
        self.assert_numbers((), 4)

    def test_facts_that_clash(self):
        self.assert_clash(((1, 2, 3), (2, 1, -4)), 3)
        self.assert_clash(((1, 2, 0), (3, 1, 0), (2, 3, -1)), 4)
        self.assert_clash(((4, 3, 9), (1, 2, 3), (2, 0, 1), (0, 1, -5), (0, 2, 7)), 5)

    def test_facts_that_do_not_clash(self):
        self.assert_numbers(((1, 2, 3), (2, 1, -3)), 3)
        self.assert_numbers(((1, 2, 0), (3, 1, 0), (2, 3, 0)), 4)
        self.assert_numbers(((0, 1, -5), (1, 0, 5), (2, 1, -7)), 3)

    def test_a_fact_of_one_unknown(self):
        self.assert_numbers(((1, 1, 0),), 2)
        self.assert_numbers(((0, 0, 0), (2, 2, 8)), 3)
        self.assert_clash(((1, 1, -1),), 2)
        self.assert_clash(((0, 0, -1),), 1)
        self.assert_clash(((1, 2, 5), (2, 2, 0), (2, 2, -3), (0, 1, 4)), 3)

    def test_unknown_0_is_the_number_0(self):
        self.assertEqual(numbers_for(((1, 0, 4), (0, 1, -4)), 2), (0, 4))
        self.assertEqual(numbers_for(((1, 0, -4), (0, 1, 4)), 2), (0, -4))
        self.assert_clash(((1, 0, 3), (0, 1, -4)), 2)
        self.assert_numbers(((1, 0, -9), (2, 0, -9), (2, 1, 0)), 3)

    def test_unknowns_without_facts(self):
        self.assert_numbers(((5, 3, -2),), 8)
        self.assert_numbers(((0, 3, -2),), 8)


class Follows(Asks):
    FACTS = ((1, 2, 3), (2, 3, -5), (3, 0, 2), (1, 0, 9))

    def test_by_a_chain(self):
        self.assertEqual(chain(self.FACTS, (1, 3, -2)), (0, 1))
        for fact in ((1, 2, 3), (1, 2, 4), (1, 3, -2), (1, 0, 0), (2, 0, -3), (2, 0, 100)):
            with self.subTest(fact):
                self.assert_follows(self.FACTS, fact, 4)

    def test_not(self):
        for fact in ((1, 2, 2), (1, 3, -3), (1, 0, -1), (0, 1, 1000), (3, 2, 5), (4, 0, 0), (0, 4, 0), (4, 1, 7)):
            with self.subTest(fact):
                self.assert_does_not_follow(self.FACTS, fact, 5)

    def test_by_the_empty_chain(self):
        for facts in ((), self.FACTS, ((1, 1, 0),)):
            for fact in ((1, 1, 0), (0, 0, 0), (3, 3, 1), (4, 4, 10)):
                with self.subTest((facts, fact)):
                    self.assert_follows(facts, fact, 5)
                    self.assertIs(proves(facts, fact, ()), True)

    def test_below_the_empty_chain(self):
        for facts in ((), self.FACTS, ((1, 1, 0), (1, 2, 0), (2, 1, 0))):
            for fact in ((1, 1, -1), (0, 0, -1), (4, 4, -8)):
                with self.subTest((facts, fact)):
                    self.assert_does_not_follow(facts, fact, 5)
                    self.assertIs(proves(facts, fact, ()), False)

    def test_by_a_round_any_fact(self):
        facts = ((1, 2, 1), (2, 1, -2), (3, 0, 4))
        for fact in ((1, 2, 1), (0, 3, -100), (2, 2, -1), (1, 1, 0), (5, 4, -7)):
            with self.subTest(fact):
                self.assert_follows(facts, fact, 6)
                self.assertTrue(is_round(facts, chain(facts, fact)))

    def test_no_facts(self):
        self.assert_does_not_follow((), (1, 2, 5), 3)
        self.assert_does_not_follow((), (0, 1, 5), 2)


class Proofs(unittest.TestCase):
    FACTS = ((1, 2, 3), (2, 1, -3), (2, 3, 1), (4, 4, -1), (4, 4, 2))

    def test_chains(self):
        right = (((1, 2, 3), (0,)), ((1, 2, 4), (0,)), ((1, 3, 4), (0, 2)), ((1, 1, 0), (0, 1)), ((1, 1, 0), ()))
        for fact, thing in right:
            with self.subTest(thing):
                self.assertIs(proves(self.FACTS, fact, thing), True)

    def test_an_index_more_than_once(self):
        self.assertIs(proves(self.FACTS, (1, 3, 4), (0, 1, 0, 1, 0, 2)), True)
        self.assertIs(proves(self.FACTS, (1, 3, 3), (0, 1, 0, 1, 0, 2)), False)
        self.assertIs(proves(self.FACTS, (0, 1, -9), (3, 3, 4, 3)), True)
        self.assertIs(proves(self.FACTS, (0, 1, -9), (3, 4, 3)), False)

    def test_a_round_for_any_fact(self):
        for fact in ((0, 1, -1000), (4, 4, -7), (2, 2, 0), (9, 8, 0)):
            with self.subTest(fact):
                self.assertIs(proves(self.FACTS, fact, (3,)), True)

    def test_a_way_home_with_a_sum_of_0_is_no_round(self):
        self.assertIs(proves(self.FACTS, (2, 2, 0), (1, 0)), True)
        self.assertIs(proves(self.FACTS, (2, 2, -1), (1, 0)), False)
        self.assertIs(proves(self.FACTS, (3, 2, 5), (1, 0)), False)

    def test_the_empty_tuple_is_never_a_round(self):
        for fact in ((1, 2, 3), (1, 1, -1), (0, 1, 100)):
            with self.subTest(fact):
                self.assertIs(proves(self.FACTS, fact, ()), False)

    def test_chains_that_are_none(self):
        wrong = (
            ((1, 2, 2), (0,)), ((1, 3, 3), (0, 2)), ((2, 1, 9), (0,)), ((1, 3, 9), (2,)), ((1, 3, 9), (0,)),
            ((1, 3, 9), (0, 0, 2)), ((1, 3, 9), (2, 0)), ((1, 4, 9), (0, 4)), ((1, 3, 9), (0, 1, 2)),
        )
        for fact, thing in wrong:
            with self.subTest(thing):
                self.assertIs(proves(self.FACTS, fact, thing), False)

    def test_a_chain_that_is_not_linked_though_it_comes_home(self):
        facts = ((1, 2, -5), (3, 1, -5))
        self.assertIs(proves(facts, (1, 1, 0), (0, 1)), False)

    def test_things_that_are_no_indices(self):
        singles = [(thing,) for thing in (*JUNK[:3], 5, -1, -5, "0", "", (0,), [0], (), [])]
        for at, thing in enumerate([*JUNK, [0], "0", 1, -2, DEEP, [DEEP], *singles]):
            with self.subTest(at):
                self.assertIs(proves(self.FACTS, (1, 2, 3), thing), False)

    def test_one_wrong_item_among_right_ones(self):
        for bad in (5, -5, False, True, None, "0", (0,), [0]):
            for thing in ((bad, 1, 0), (0, bad, 0), (0, 1, bad)):
                with self.subTest(thing):
                    self.assertIs(proves(self.FACTS, (1, 2, 3), thing), False)

    def test_true_and_false_are_no_indices(self):
        facts = ((1, 2, 3), (1, 2, 3))
        self.assertIs(proves(facts, (1, 2, 3), (0,)), True)
        self.assertIs(proves(facts, (1, 2, 3), (1,)), True)
        self.assertIs(proves(facts, (1, 2, 3), (False,)), False)
        self.assertIs(proves(facts, (1, 2, 3), (True,)), False)

    def test_indices_from_behind_are_none(self):
        self.assertIs(proves(((1, 2, 3),), (1, 2, 3), (-1,)), False)

    def test_a_list_is_no_chain(self):
        self.assertIs(proves(self.FACTS, (1, 2, 3), [0]), False)
        self.assertIs(proves(self.FACTS, (1, 1, 0), []), False)


class Fulfil(unittest.TestCase):
    def test_values(self):
        facts = ((1, 2, 3), (2, 0, 0))
        self.assertIs(fulfil((0, 3, 0), facts), True)
        self.assertIs(fulfil((0, 4, 0), facts), False)
        self.assertIs(fulfil((0, 3, 1), facts), False)
        self.assertIs(fulfil((0,), ()), True)
        self.assertIs(fulfil((0, 5), ((1, 1, 0),)), True)
        self.assertIs(fulfil((0, 5), ((1, 1, -1),)), False)

    def test_whatever_the_first_one_is(self):
        self.assertIs(fulfil((7, 10), ((1, 0, 3),)), True)
        self.assertIs(fulfil((7, 11), ((1, 0, 3),)), False)
        self.assertIs(fulfil((-7, -7), ((0, 1, 0),)), True)


class Great(Asks):
    """Many unknowns and great numbers, which a search step by step would not end with."""

    def row(self, many, step):
        return tuple((at, at + 1, step) for at in range(many - 1))

    def test_thirty_unknowns_sixty_facts(self):
        numbers = random.Random(30)
        for _ in range(30):
            goal = [0] + [numbers.randint(-10 ** 8, 10 ** 8) for _ in range(29)]
            facts = []
            while len(facts) < 60:
                i, j = numbers.sample(range(30), 2)
                facts.append((i, j, goal[i] - goal[j] + numbers.randint(0, 3)))
            facts = tuple(facts)
            self.assert_numbers(facts, 30)
            self.compare(facts, 30, numbers)
            i, j, c = facts[numbers.randrange(60)]
            self.assert_clash((*facts, (j, i, -c - 1)), 30)

    def compare(self, facts, many, numbers):
        sums = least_sums(facts, many)
        for _ in range(20):
            i, j = numbers.choice(range(many)), numbers.choice(range(many))
            least = sums[i, j]
            if least is None:
                self.assert_does_not_follow(facts, (i, j, 10 ** 9), many)
            else:
                self.assert_follows(facts, (i, j, least), many)
                self.assert_does_not_follow(facts, (i, j, least - 1), many)

    def test_a_round_that_loses_one_of_hundred_millions(self):
        for facts in (self.row(30, 10 ** 8), tuple(reversed(self.row(30, 10 ** 8)))):
            back = (29, 0, -29 * 10 ** 8)
            self.assert_numbers((*facts, back), 30)
            self.assert_clash((*facts, (29, 0, -29 * 10 ** 8 - 1)), 30)
            self.assert_follows((*facts, back), (29, 29, 0), 30)
            self.assert_follows((*facts, back), (3, 1, -2 * 10 ** 8), 30)
            self.assert_does_not_follow((*facts, back), (3, 1, -2 * 10 ** 8 - 1), 30)

    def test_two_ways_at_each_of_thirty_unknowns(self):
        facts = tuple(itertools.chain.from_iterable([(at, at + 1, 2 ** at), (at, at + 1, 0)] for at in range(29)))
        self.assertEqual(len(chain(facts, (0, 29, 0))), 29)
        self.assert_follows(facts, (0, 29, 0), 30)
        self.assert_does_not_follow(facts, (0, 29, -1), 30)

    def test_numbers_of_many_digits(self):
        facts = ((1, 2, HUGE), (2, 0, -HUGE - 1), (0, 3, -HUGE))
        self.assert_numbers(facts, 4)
        self.assert_follows(facts, (1, 0, -1), 4)
        self.assert_does_not_follow(facts, (1, 0, -2), 4)
        self.assert_follows(facts, (1, 3, -HUGE - 1), 4)
        self.assert_clash((*facts, (0, 1, 0)), 4)
        self.assertIs(proves(((1, 2, HUGE),), (1, 2, HUGE - 1), (0,)), False)
        self.assertIs(fulfil((0, HUGE), ((1, 0, HUGE),)), True)
        self.assertIs(fulfil((0, HUGE + 1), ((1, 0, HUGE),)), False)


class AllSmall(Asks):
    def test_against_the_least_sums(self):
        numbers = random.Random(3)
        for _ in range(600):
            many = numbers.randint(1, 5)
            facts = tuple(
                (numbers.randrange(many), numbers.randrange(many), numbers.randint(-3, 5))
                for _ in range(numbers.randint(0, 8))
            )
            sums = least_sums(facts, many)
            if sums is None:
                self.assert_clash(facts, many)
                self.assert_follows(facts, (0, many - 1, -50), many)
                continue
            self.assert_numbers(facts, many)
            for i, j in itertools.product(range(many), repeat=2):
                least = sums[i, j]
                if least is None:
                    self.assert_does_not_follow(facts, (i, j, 50), many)
                else:
                    self.assert_follows(facts, (i, j, least), many)
                    self.assert_does_not_follow(facts, (i, j, least - 1), many)

    def test_all_short_rows_of_indices(self):
        facts = ((1, 2, 1), (2, 1, -2), (2, 2, 1), (0, 1, 0))
        for many in range(4):
            for thing in itertools.product(range(4), repeat=many):
                for fact in ((1, 2, 0), (2, 2, -1), (0, 1, -3), (1, 1, 0)):
                    with self.subTest((fact, thing)):
                        right = is_chain(facts, fact, thing) or is_round(facts, thing)
                        self.assertIs(proves(facts, fact, thing), right)


class Kept(unittest.TestCase):
    def test_nothing_is_changed_and_the_answers_stay(self):
        facts = ((1, 2, 3), (2, 0, -5), (3, 1, 0))
        asks = (
            (clash, [facts]), (chain, [facts, (1, 0, -2)]), (chain, [facts, (0, 1, 0)]),
            (proves, [facts, (1, 0, -2), [0, [1]]]), (proves, [facts, (1, 0, -2), (0, 1)]),
            (numbers_for, [facts, 4]), (against, [facts, (1, 0, -3), 4]), (fulfil, [(0, 1, 2, 3), facts]),
            (clash, [((1, 2, 3), (2, 1, -5))]),
        )
        for ask, arguments in asks:
            with self.subTest(ask.__name__):
                ahead = copy.deepcopy(arguments)
                first = ask(*arguments)
                self.assertEqual(arguments, ahead)
                self.assertEqual(ask(*arguments), first)
                self.assertIs(type(ask(*arguments)), type(first))


if __name__ == "__main__":
    unittest.main()
