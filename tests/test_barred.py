"""Points 63 to 66: tables that fit, and crowds that show that there are none."""

import random
import unittest
from copy import deepcopy
from itertools import product

from allteams.barred import are_prices, cheapest_table, fitting_plan, fitting_table, is_crowded
from allteams.errors import Crowded, TeamError
from allteams.looks import is_even
from allteams.plans import Plan
from allteams.tables import Table
from tests.models import (
    LARGE, SMALL, all_fitting, all_lists, classes_of, crowded, dues, some_barred, some_fit, some_numbers, table_fits,
)
from tests.support import NO_INTEGERS, NO_LISTS, NO_TUPLES, Raising, kinds_in_order
from tests.test_evens import NO_NUMBERS

NO_PRICES = ({}, {})
THREE = [{2: 2}, {2: 2}, {2: 2}]

# All functions of this part, with nothing but what their first errors depend on.
CALLS = [
    lambda sizes, games, numbers, entries: fitting_table(sizes, games, numbers, entries),
    lambda sizes, games, numbers, entries: fitting_plan(sizes, games, numbers, entries),
    lambda sizes, games, numbers, entries: is_crowded(sizes, games, numbers, entries, None),
    lambda sizes, games, numbers, entries: cheapest_table(sizes, games, numbers, {}, entries),
    lambda sizes, games, numbers, entries: cheapest_table(sizes, games, numbers, {(9, ()): None}, entries),
    lambda sizes, games, numbers, entries: are_prices(sizes, games, numbers, {}, entries, 0, NO_PRICES),
    lambda sizes, games, numbers, entries: are_prices(sizes, games, numbers, {(9, ()): None}, entries, 0, NO_PRICES),
]

# What is no kind of two and two people where pairs play.
NO_KINDS = [
    *NO_TUPLES, (), (2,), (1, 1, 0), (0, 0), (0, 1), (1, 2), (3, -1), (-1, 3), (2, 2), (True, 1), (1, True), (1.0, 1),
    (1, None), ((1,), (1,)), [1, 1], "11",
]


def some_cases():
    """Sizes, games, numbers and barred entries of few and of many people, with tables that fit and without."""
    for (sizes, games, numbers), turn in product(SMALL, range(30)):
        chance = random.Random(f"{sizes} {games} {turn}")
        told = numbers if turn < 15 else some_numbers(sizes, games, len(numbers), chance)
        yield sizes, games, told, some_barred(sizes, games, len(told), chance, turn % 5 / 7)


def large_cases():
    for (sizes, games), many, turn in product(LARGE, (1, 2, 7, 20, 130), range(4)):
        chance = random.Random(f"{sizes} {games} {many} {turn}")
        numbers = some_numbers(sizes, games, many, chance)
        yield sizes, games, numbers, some_barred(sizes, games, many, chance, (0, 0.2, 0.5, 0.8)[turn])


class Errors(Raising, unittest.TestCase):
    def test_setting_comes_first(self):
        for call in CALLS:
            for numbers, entries in ((THREE, []), (None, [(9, None)]), ([{2: 5}], ())):
                self.assert_setting_errors(call, numbers, entries)

    def test_wrong_numbers(self):
        for call in CALLS:
            for wrong in [*NO_LISTS, [], (), [{}] * 131, [{9: 9}] * 131]:
                self.assert_raises("BadRounds", [wrong], call, [2, 2], {2: 1, 3: 1}, wrong, [(9, None)])
            for item in NO_NUMBERS:
                for wrong in ([item], ({2: 6, 3: 4}, item)):
                    self.assert_raises("BadRounds", [wrong], call, [2, 2], {2: 1, 3: 1}, wrong, [(9, None)])

    def test_wrong_sums(self):
        for call in CALLS:
            for games in ({2: 1, 3: 1}, {3: 1, 2: 1}):
                self.assert_raises("WrongSum", [2, 5, 6], call, [2, 2], games, [{2: 5, 3: 1}], [(9, None)])
                self.assert_raises("WrongSum", [3, 1, 4], call, [2, 2], games, [{2: 6}, {3: 1}], [(9, None)])
            self.assert_raises("WrongSum", [2, 7, 6], call, [1, 3], {2: 1}, [*THREE, {2: 1}], [])

    def test_wrong_entries(self):
        for call in CALLS:
            for at in [*NO_INTEGERS, -1, 3, 4, 10**29, -(10**29)]:
                for entries in ([(at, (1, 1))], [(0, (1, 1)), (at, None)], ((2, (0, 2)), (at, (9,)), (0, None))):
                    self.assert_raises("BadRound", [at], call, [2, 2], {2: 1}, THREE, entries)
            for kind in NO_KINDS:
                for entries in ([(0, kind)], [(2, (1, 1)), (1, kind), (3, (1, 1))], ((0, kind), (0, None))):
                    self.assert_raises("BadKind", [kind], call, [2, 2], {2: 1}, THREE, entries)

    def test_crowded_comes_last(self):
        full = [(at, kind) for at in range(3) for kind in kinds_in_order([2, 2], {2: 1})]
        for call in CALLS[:2]:
            self.assert_raises("BadRound", [3], call, [2, 2], {2: 1}, THREE, [*full, (3, (1, 1))])
            self.assert_raises("Crowded", [[(0, 2)]], call, [2, 2], {2: 1}, THREE, full)
        self.assert_raises("Crowded", [[(1, 1)]], cheapest_table, [2, 2], {2: 1}, THREE, {}, full[1::3])
        with self.assertRaises(Crowded):
            cheapest_table([2, 2], {2: 1}, THREE, {(0, (1, 1)): 5}, full)


class Fitting(Raising, unittest.TestCase):
    def assert_fitting(self, sizes, games, numbers, entries):
        """Whether the functions keep points 64 to 66; whether a table fits is returned."""
        before = deepcopy((sizes, games, numbers, entries))
        try:
            table = fitting_table(sizes, games, numbers, entries)
        except Crowded as error:
            self.assertIs(type(error.paper), list)
            there = [kind for kind in kinds_in_order(sizes, games) if kind in error.paper]
            self.assertEqual(error.paper, there)
            self.assertTrue(crowded(sizes, games, numbers, entries, error.paper))
            self.assertTrue(is_crowded(sizes, games, numbers, entries, error.paper))
            self.assert_raises("Crowded", [error.paper], fitting_plan, sizes, games, numbers, entries)
            self.assert_raises("Crowded", [error.paper], cheapest_table, sizes, games, numbers, {}, entries)
            found = False
        else:
            self.assertIs(type(table), Table)
            self.assertTrue(table_fits(table, sizes, games, numbers, entries))
            plan = fitting_plan(sizes, games, numbers, entries)
            self.assertIs(type(plan), Plan)
            self.assertEqual(plan.outline(classes_of(sizes)), table)
            self.assertTrue(is_even(plan, classes_of(sizes)))
            found = True
        self.assertEqual((sizes, games, numbers, entries), before)
        return found

    def test_few_people(self):
        told = []
        for case in some_cases():
            found = self.assert_fitting(*case)
            self.assertEqual(found, len(all_fitting(*case)) > 0)
            self.assertEqual(found, some_fit(*case))
            told.append(found)
        self.assertGreater(min(sum(told), len(told) - sum(told)), 50)

    def test_many_people(self):
        told = [self.assert_fitting(*case) for case in large_cases()]
        self.assertGreater(min(sum(told), len(told) - sum(told)), 20)

    def test_nothing_is_barred_if_nothing_is_passed(self):
        for sizes, games, numbers in SMALL:
            table = fitting_table(sizes, games, numbers)
            self.assertTrue(table_fits(table, sizes, games, numbers, ()))
            self.assertEqual(fitting_plan(sizes, games, numbers).outline(classes_of(sizes)), table)

    def test_equal_arguments_give_equal_results(self):
        for sizes, games, numbers, entries in [*some_cases(), *large_cases()]:
            turned = tuple({size: row[size] for size in reversed(row)} for row in numbers)
            back = {size: games[size] for size in reversed(games)}
            results = []
            for passed in ((sizes, games, numbers, entries), (tuple(sizes), back, turned, tuple(entries))):
                try:
                    results.append(fitting_table(*passed).text())
                except Crowded as error:
                    results.append(error.paper)
            self.assertEqual(results[0], results[1])

    def test_sizes_that_are_left_out_have_no_teams(self):
        numbers = [{1: 2}, {2: 1}]
        self.assertEqual(fitting_table([1, 1], {1: 1, 2: 1}, numbers).rounds, [{(0, 1): 1, (1, 0): 1}, {(1, 1): 1}])

    def test_a_crowd_has_one_team_size(self):
        numbers = [{1: 2, 2: 1}, {1: 1, 2: 2}]
        every = [(0, kind) for kind in kinds_in_order([1, 1, 1], {1: 1, 2: 1})]
        self.assert_raises("Crowded", [[(0, 0, 1), (0, 1, 0)]], fitting_table, [1, 1, 1], {1: 1, 2: 1}, numbers, every[:2])
        with self.assertRaises(Crowded) as caught:
            fitting_table([1, 1, 1], {1: 1, 2: 1}, numbers, every)
        self.assertEqual(len({sum(kind) for kind in caught.exception.paper}), 1)

    def test_a_call_that_raises_changes_nothing(self):
        entries, numbers = [(0, (1, 1)), (1, (1, 1))], deepcopy(THREE)
        with self.assertRaises(TeamError) as caught:
            fitting_table([2, 2], {2: 1}, numbers, entries)
        caught.exception.paper.clear()
        self.assertEqual((numbers, entries), (THREE, [(0, (1, 1)), (1, (1, 1))]))
        self.assert_raises("Crowded", [[(1, 1)]], fitting_table, [2, 2], {2: 1}, numbers, entries)


class IsCrowded(unittest.TestCase):
    def test_all_lists_of_kinds(self):
        told = []
        for case in some_cases():
            kinds = kinds_in_order(case[0], case[1])
            if len(kinds) > 6:
                continue
            found = [is_crowded(*case, some) for some in all_lists(kinds)]
            self.assertEqual(found, [crowded(*case, some) for some in all_lists(kinds)])
            self.assertEqual({type(one) for one in found}, {bool})
            self.assertEqual(any(found), not some_fit(*case))
            self.assertEqual(found, [is_crowded(*case, tuple(some)) for some in all_lists(kinds)])
            told.extend(found)
        self.assertGreater(sum(told), 100)

    def test_each_kind_once_and_in_order(self):
        case = ([1, 1, 1], {1: 1, 2: 1}, [{1: 3}, {2: 3}], [(0, (0, 0, 1)), (0, (0, 1, 0)), (1, (0, 1, 1))])
        right = [[(0, 0, 1), (0, 1, 0)], [(0, 0, 1)], [(0, 1, 0)], [(0, 1, 1)]]
        self.assertEqual([is_crowded(*case, some) for some in right], [True] * 4)
        wrong = [
            [(0, 1, 0), (0, 0, 1)], [(0, 0, 1), (0, 0, 1)], [(0, 0, 1), (0, 1, 1)], [(0, 1, 1), (0, 0, 1)], [], (),
            [(0, 0, 1), (1, 0, 0)], [(1, 0, 0)], [(0, 1, 1), (1, 1, 0)], [(0, 1, 1), (0, 1, 1)],
        ]
        self.assertEqual([is_crowded(*case, some) for some in wrong], [False] * len(wrong))

    def test_any_value(self):
        case = ([2, 2], {2: 1}, THREE, [(at, kind) for at in range(3) for kind in kinds_in_order([2, 2], {2: 1})])
        self.assertTrue(is_crowded(*case, [(1, 1)]))
        for value in [*NO_LISTS, *[[kind] for kind in NO_KINDS], *[[(1, 1), kind] for kind in NO_KINDS], [[(1, 1)]]]:
            self.assertIs(is_crowded(*case, value), False)

    def test_a_crowd_just_too_large(self):
        numbers = [{2: 3}, {2: 2}, {2: 1}]
        for entries, told in [([(0, (1, 1))], True), ([(1, (1, 1))], False), ([(1, (1, 1)), (2, (1, 1))], True)]:
            self.assertIs(is_crowded([2, 2], {2: 1}, numbers, entries, [(1, 1)]), told)
        self.assertEqual(dues([2, 2], {2: 1})[(1, 1)], 4)


if __name__ == "__main__":
    unittest.main()
