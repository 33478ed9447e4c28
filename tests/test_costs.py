"""Points 67 to 69: cheapest tables, and prices that show that they are."""

import random
import unittest
from copy import deepcopy
from itertools import product

from allteams.barred import are_prices, cheapest_table, fitting_plan, fitting_table
from allteams.errors import Crowded, TeamError
from allteams.kinds import team_kind
from allteams.tables import Table
from allteams.taking import plan_of
from tests.models import LARGE, SMALL, all_fitting, cost_of, dues, some_barred, some_numbers, table_fits
from tests.support import NO_INTEGERS, Raising, kinds_in_order
from tests.test_barred import THREE

SMALL_SETTING = ([2, 2], {2: 1}, THREE)


def some_costs(sizes, games, many, chance, most=1000):
    """Costs of some entries, in no special order, 0 among them."""
    entries = [(at, kind) for at in range(many) for kind in kinds_in_order(sizes, games)]
    chance.shuffle(entries)
    return {entry: chance.randint(-most, most) for entry in entries if chance.random() < 0.8}


def prices_show(sizes, games, numbers, costs, barred, cost, prices):
    """What are_prices must return, judged word for word by point 68."""
    fees, charges = prices
    kinds = kinds_in_order(sizes, games)
    shut = set(barred)
    if set(fees) != set(product(range(len(numbers)), games)) or set(charges) != set(kinds):
        return False
    for at, kind in product(range(len(numbers)), kinds):
        if (at, kind) not in shut and costs.get((at, kind), 0) < fees[at, sum(kind)] + charges[kind]:
            return False
    shown = sum(fees[at, size] * row.get(size, 0) for at, row in enumerate(numbers) for size in games)
    return shown + sum(charges[kind] * due for kind, due in dues(sizes, games).items()) >= cost


def some_cases():
    """Sizes, games, numbers, costs and barred entries."""
    for (sizes, games, numbers), turn in product(SMALL, range(24)):
        chance = random.Random(f"{sizes} {games} {turn}")
        most = (0, 1, 2, 1000)[turn % 4]
        costs = some_costs(sizes, games, len(numbers), chance, most)
        yield sizes, games, numbers, costs, some_barred(sizes, games, len(numbers), chance, turn % 3 / 6)


def large_cases():
    for (sizes, games), many, turn in product(LARGE, (1, 5, 12), range(3)):
        if len(kinds_in_order(sizes, games)) <= 80:
            chance = random.Random(f"{sizes} {games} {many} {turn}")
            numbers = some_numbers(sizes, games, many, chance)
            costs = some_costs(sizes, games, many, chance, (3, 50, 1000)[turn])
            yield sizes, games, numbers, costs, some_barred(sizes, games, many, chance, turn / 10)


def changed(prices, part, key, step):
    told = deepcopy(prices)
    told[part][key] = told[part].get(key, 0) + step
    return told


class Cheapest(Raising, unittest.TestCase):
    def assert_cheapest(self, sizes, games, numbers, costs, barred):
        """Whether the result keeps points 67 to 69, as its own prices show; the cost is returned, or None."""
        before = deepcopy((sizes, games, numbers, costs, barred))
        try:
            cost, table, prices = cheapest_table(sizes, games, numbers, costs, barred)
        except Crowded as error:
            self.assert_raises("Crowded", [error.paper], fitting_table, sizes, games, numbers, barred)
            return None
        self.assertEqual([type(cost), type(table), type(prices)], [int, Table, tuple])
        self.assertEqual([type(part) for part in prices], [dict, dict])
        self.assertTrue(table_fits(table, sizes, games, numbers, barred))
        self.assertEqual(cost_of(table.rounds, costs), cost)
        for most, told in ((cost, True), (cost - 5, True), (cost + 1, False)):
            self.assertIs(prices_show(sizes, games, numbers, costs, barred, most, prices), told)
            self.assertIs(are_prices(sizes, games, numbers, costs, barred, most, prices), told)
        self.assertEqual((sizes, games, numbers, costs, barred), before)
        return cost

    def test_few_people(self):
        told = []
        for sizes, games, numbers, costs, barred in some_cases():
            found = self.assert_cheapest(sizes, games, numbers, costs, barred)
            tables = all_fitting(sizes, games, numbers, barred)
            self.assertEqual(found, min([cost_of(rounds, costs) for rounds in tables], default=None))
            told.append(found)
        self.assertGreater(len([cost for cost in told if cost is not None]), 100)

    def test_many_people(self):
        found = [self.assert_cheapest(*case) for case in large_cases()]
        self.assertGreater(len([cost for cost in found if cost is not None]), 20)

    def test_costs_are_those_of_the_teams_of_a_plan(self):
        for sizes, games, numbers, costs, barred in large_cases():
            try:
                cost, table, _ = cheapest_table(sizes, games, numbers, costs, barred)
            except Crowded:
                continue
            for plan, least in ((plan_of(table), True), (fitting_plan(sizes, games, numbers, barred), False)):
                teams = [(at, team_kind(sizes, team)) for at, row in enumerate(plan.rounds) for team in row]
                paid = sum(costs.get(entry, 0) for entry in teams)
                self.assertEqual(paid, cost) if least else self.assertGreaterEqual(paid, cost)

    def test_no_costs_at_all(self):
        for sizes, games, numbers in SMALL:
            self.assertEqual(cheapest_table(sizes, games, numbers, {})[0], 0)
            self.assertEqual(self.assert_cheapest(sizes, games, numbers, {}, ()), 0)

    def test_the_greatest_and_the_least_costs(self):
        for sizes, games, numbers in SMALL:
            for cost in (-1000, 1000):
                every = dict.fromkeys(product(range(len(numbers)), kinds_in_order(sizes, games)), cost)
                found = self.assert_cheapest(sizes, games, numbers, every, ())
                self.assertEqual(found, cost * sum(dues(sizes, games).values()))

    def test_equal_arguments_give_equal_results(self):
        for sizes, games, numbers, costs, barred in large_cases():
            turned = tuple({size: row[size] for size in reversed(row)} for row in numbers)
            back = {size: games[size] for size in reversed(games)}
            again = {entry: costs[entry] for entry in sorted(costs)}
            results = []
            for passed in ((sizes, games, numbers, costs, barred), (tuple(sizes), back, turned, again, tuple(barred))):
                try:
                    cost, table, prices = cheapest_table(*passed)
                    results.append((cost, table.text(), prices))
                except Crowded as error:
                    results.append(error.paper)
            self.assertEqual(results[0], results[1])

    def test_prices_are_new(self):
        costs = {(0, (1, 1)): 5}
        prices = cheapest_table(*SMALL_SETTING, costs)[2]
        told = deepcopy(prices)
        prices[0].clear()
        prices[1].clear()
        self.assertEqual((cheapest_table(*SMALL_SETTING, costs)[2], costs), (told, {(0, (1, 1)): 5}))


class Errors(Raising, unittest.TestCase):
    def calls(self):
        yield lambda costs, barred: cheapest_table(*SMALL_SETTING, costs, barred)
        yield lambda costs, barred: are_prices(*SMALL_SETTING, costs, barred, 0, ({}, {}))

    def test_wrong_entries(self):
        for call in self.calls():
            for at in (-1, 3, 10**29, -(10**29)):
                self.assert_raises("BadRound", [at], call, {(at, (1, 1)): 0}, [])
                self.assert_raises("BadRound", [at], call, {(at, (9, 9)): None, (2, (2, 0)): 1}, [])
            for kind in ((), (2,), (0, 1), (1, 2), (3, -1), (-1, 3), (1, 1, 0), (2, 2)):
                self.assert_raises("BadKind", [kind], call, {(0, kind): 0}, [])
                self.assert_raises("BadKind", [kind], call, {(3, (1, 1)): 0, (1, kind): None, (1, (2, 0)): 5}, [])

    def test_wrong_costs(self):
        for call in self.calls():
            for cost in [*NO_INTEGERS, 1001, -1001, 10**29, -(10**29)]:
                self.assert_raises("BadCost", [cost], call, {(0, (1, 1)): cost}, [])
                self.assert_raises("BadCost", [cost], call, {(3, (1, 1)): 1, (1, (1, 1)): cost, (0, (2, 0)): 1000}, [])

    def test_keys_are_looked_at_in_ascending_order(self):
        wrong = {(1, (0, 2)): None, (1, (0, 1)): 0, (0, (1, 1)): 2000, (0, (2, 0)): -2000, (-1, (0, 2)): 0, (5, ()): 0}
        for call in self.calls():
            costs = {key: wrong[key] for key in (list(wrong)[turn] for turn in (3, 5, 1, 4, 0, 2))}
            for error, value, key in [
                ("BadRound", -1, (-1, (0, 2))), ("BadCost", 2000, (0, (1, 1))), ("BadCost", -2000, (0, (2, 0))),
                ("BadKind", (0, 1), (1, (0, 1))), ("BadCost", None, (1, (0, 2))), ("BadRound", 5, (5, ())),
            ]:
                self.assert_raises(error, [value], call, costs, [])
                del costs[key]
            self.assertEqual(costs, {})

    def test_barred_entries_come_first_and_crowds_last(self):
        full = [(at, (1, 1)) for at in range(3)]
        for call in self.calls():
            self.assert_raises("BadRound", [3], call, {(-1, (1, 1)): 0}, [(3, (1, 1))])
            self.assert_raises("BadKind", [None], call, {(-1, (1, 1)): 0}, [(0, None)])
            self.assert_raises("BadCost", ["1"], call, {(0, (1, 1)): "1"}, full)
        self.assert_raises("Crowded", [[(1, 1)]], cheapest_table, *SMALL_SETTING, {(0, (1, 1)): 1}, full)
        self.assertFalse(are_prices(*SMALL_SETTING, {}, full, 0, ({}, {})))

    def test_a_call_that_raises_changes_nothing(self):
        costs = {(0, (1, 1)): 1001, (0, (0, 2)): 1}
        before = dict(costs)
        with self.assertRaises(TeamError):
            cheapest_table(*SMALL_SETTING, costs)
        self.assertEqual((costs, list(costs)), (before, list(before)))


class ArePrices(unittest.TestCase):
    def test_prices_that_are_changed(self):
        told = []
        for sizes, games, numbers, costs, barred in some_cases():
            try:
                cost, _, prices = cheapest_table(sizes, games, numbers, costs, barred)
            except Crowded:
                continue
            chance = random.Random(cost)
            for _ in range(12):
                part = chance.choice((0, 1))
                prices = changed(prices, part, chance.choice(list(prices[part])), chance.choice((-1, 1)))
                for least in (cost, cost - 1, cost - 3):
                    passed = (sizes, games, numbers, costs, barred, least, prices)
                    self.assertIs(are_prices(*passed), prices_show(*passed))
                    told.append(are_prices(*passed))
        self.assertGreater(min(sum(told), len(told) - sum(told)), 100)

    def test_wrong_keys(self):
        games, numbers = {2: 1, 1: 1}, [{1: 2, 2: 1}, {1: 2, 2: 5}]
        prices = cheapest_table([2, 2], games, numbers, {})[2]
        self.assertTrue(are_prices([2, 2], games, numbers, {}, [], 0, prices))
        for part, keys in ((0, [(2, 1), (0, 3), (-1, 2), (1, 0)]), (1, [(0, 0), (2,), (3, 0), (2, 1), (1, 1, 0)])):
            for key in keys:
                self.assertFalse(are_prices([2, 2], games, numbers, {}, [], 0, changed(prices, part, key, 0)))
            for key in prices[part]:
                less = deepcopy(prices)
                del less[part][key]
                self.assertFalse(are_prices([2, 2], games, numbers, {}, [], -99, less))
        self.assertFalse(are_prices([2, 2], games, numbers, {}, [], 0, ({}, {})))

    def test_barred_entries_do_not_count(self):
        prices = ({(at, 2): 0 for at in range(3)}, {(0, 2): 0, (1, 1): 0, (2, 0): 7})
        costs = {(1, (2, 0)): 7}
        self.assertFalse(are_prices(*SMALL_SETTING, costs, [(0, (2, 0))], 7, prices))
        self.assertTrue(are_prices(*SMALL_SETTING, costs, [(2, (2, 0)), (0, (2, 0))], 7, prices))
        self.assertFalse(are_prices(*SMALL_SETTING, costs, [(2, (2, 0)), (0, (2, 0))], 8, prices))

    def test_prices_where_no_table_fits(self):
        full = [(at, (1, 1)) for at in range(3)]
        prices = ({(at, 2): 0 for at in range(3)}, {(0, 2): 0, (1, 1): 10**20, (2, 0): 0})
        self.assertTrue(are_prices(*SMALL_SETTING, {}, full, 4 * 10**20, prices))
        self.assertFalse(are_prices(*SMALL_SETTING, {}, full[1:], 0, prices))


if __name__ == "__main__":
    unittest.main()
