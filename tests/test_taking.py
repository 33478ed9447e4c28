"""Points 45 to 49: people taken out of classes, until a table tells a plan."""

import unittest
from itertools import product
from math import comb, prod

from allteams import kinds
from allteams.looks import is_even
from allteams.plans import Plan
from allteams.tables import Table
from allteams.taking import plan_of, steps, taken_out
from tests.support import NO_INTEGERS, SETTINGS, Raising, kinds_in_order, numbers_without_order
from tests.test_tables import added_up

MORE_SETTINGS = [
    ([2], {2: 3}), ([3], {1: 2, 3: 1}), ([5], {2: 1, 4: 2}), ([7], {3: 3}), ([9], {4: 1}), ([10], {2: 2}),
    ([2, 1], {1: 3}), ([3, 3], {3: 2}), ([1, 5], {4: 2, 2: 1}), ([4, 4], {2: 3, 1: 3}), ([2, 2, 2], {4: 3}),
    ([1, 1, 5], {3: 1}), ([2] * 5, {3: 1}), ([1, 9], {3: 1, 1: 1}), ([9, 1], {2: 2, 1: 3}), ([6, 1, 2], {4: 1}),
]
ALL_SETTINGS = SETTINGS + MORE_SETTINGS


def due(sizes, games, kind):
    return games[sum(kind)] * prod(comb(size, few) for size, few in zip(sizes, kind))


def mixed(sizes, games, rounds, first):
    """A table that adds up, whose teams are dealt to the rounds without any rule, often many to one round."""
    numbers = numbers_without_order(first)
    found = [{} for _ in range(rounds)]
    for kind in kinds_in_order(sizes, games):
        left = due(sizes, games, kind)
        while left:
            some = next(numbers) % left + 1
            row = found[next(numbers) % rounds]
            row[kind] = row.get(kind, 0) + some
            left -= some
    return Table(sizes, games, found)


def all_tables(sizes, games, rounds):
    """All tables of few rounds that add up."""
    found = kinds_in_order(sizes, games)
    ways = []
    for kind in found:
        most = due(sizes, games, kind)
        ways.append([told for told in product(range(most + 1), repeat=rounds) if sum(told) == most])
    for told in product(*ways):
        yield Table(sizes, games, [{kind: column[at] for kind, column in zip(found, told)} for at in range(rounds)])


def some_tables():
    """Tables that add up, of several sizes, games and rounds."""
    for place, (sizes, games) in enumerate(ALL_SETTINGS):
        for rounds in (1, 2, 3, 5, 130):
            yield added_up(sizes, games, rounds)
            for first in range(2):
                yield mixed(sizes, games, rounds, 1000 * place + 10 * rounds + first)
    yield from all_tables([4], {2: 1}, 3)
    yield from all_tables([2, 2], {2: 1}, 2)
    yield from all_tables([3, 1], {3: 1, 1: 1}, 2)
    yield from all_tables([3], {1: 1, 2: 1}, 3)
    yield from all_tables([1, 2], {2: 2}, 2)
    yield from all_tables([5], {4: 1, 3: 1}, 2)


def classes_of(sizes):
    first = [sum(sizes[:index]) for index in range(len(sizes))]
    return [list(range(start, start + size)) for start, size in zip(first, sizes)]


class TakenOut(Raising, unittest.TestCase):
    def assert_taken_out(self, table, index):
        """Whether taken_out returns what point 45 promises, judged from the numbers themselves."""
        size, text = table.sizes[index], table.text()
        out = taken_out(table, index)
        self.assertIs(type(out), Table)
        self.assertEqual(out.sizes, table.sizes[:index] + (1, size - 1) + table.sizes[index + 1 :])
        self.assertEqual((out.games, len(out)), (table.games, len(table)))
        self.assertEqual(out.merged(index, index + 1), table)
        self.assertIsNone(out.fault())
        for at in range(len(table)):
            places = table.places(at, index)
            self.assertIn(out.places(at, index), (places // size, -(-places // size)), text)
            self.assertEqual(out.places(at, index) + out.places(at, index + 1), places)
        self.assertEqual(table.text(), text)
        return out

    def test_all_classes_of_two_people_or_more(self):
        for table in some_tables():
            for index, size in enumerate(table.sizes):
                if size > 1:
                    self.assert_taken_out(table, index)

    def test_one_person_after_another_from_the_last_class(self):
        for table in some_tables():
            if len(table) > 5:
                continue
            while max(table.sizes) > 1:
                table = self.assert_taken_out(table, max(at for at, size in enumerate(table.sizes) if size > 1))

    def test_two_people(self):
        table = Table([2], {2: 1, 1: 1}, [{(1,): 2}, {(2,): 1}])
        self.assertEqual(taken_out(table, 0).rounds, [{(0, 1): 1, (1, 0): 1}, {(1, 1): 1}])

    def test_equal_tables_give_equal_results(self):
        for sizes, games in ALL_SETTINGS:
            table = mixed(sizes, games, 4, 7)
            rounds = [{kind: row[kind] for kind in reversed(row)} for row in table.rounds]
            again = Table(tuple(sizes), {size: games[size] for size in reversed(games)}, tuple(rounds))
            for index, size in enumerate(sizes):
                if size > 1:
                    self.assertEqual(taken_out(table, index), taken_out(again, index))
            self.assertEqual(plan_of(table), plan_of(again))

    def test_wrong_classes(self):
        right = added_up([2, 1, 3], {2: 1}, 3)
        wrong = Table([2, 1, 3], {2: 1}, [{}])
        for table, index in product((right, wrong), [*NO_INTEGERS, -1, 3, 4, 10**29, -(10**29)]):
            self.assert_raises("BadIndex", [index], taken_out, table, index)

    def test_a_class_of_one_person(self):
        for table in (added_up([2, 1, 3, 1], {2: 1}, 3), Table([2, 1, 3, 1], {2: 1}, [{}])):
            for index in (1, 3):
                self.assert_raises("Alone", [index], taken_out, table, index)
        self.assert_raises("Alone", [0], taken_out, Table([1], {1: 1}, [{}]), 0)
        self.assert_raises("BadIndex", [1], taken_out, Table([1], {1: 1}, [{}]), 1)

    def test_tables_that_do_not_add_up(self):
        for sizes, games in ALL_SETTINGS:
            table = added_up(sizes, games, 3)
            for kind in kinds_in_order(sizes, games):
                most = due(sizes, games, kind)
                more = Table(sizes, games, [*table.rounds, {kind: 2}])
                for index, size in enumerate(sizes):
                    if size > 1:
                        self.assert_raises("NotAdding", [kind, most + 2, most], taken_out, more, index)
        self.assert_raises("NotAdding", [(0, 1), 0, 2], taken_out, Table([2, 2], {2: 1, 1: 1}, [{}]), 1)

    def test_the_fault_counts_even_if_the_shares_are_whole(self):
        table = Table([2], {2: 1}, [{(2,): 2}])
        self.assert_raises("NotAdding", [(2,), 2, 1], taken_out, table, 0)
        table = Table([2, 2], {2: 1}, [{(0, 2): 3, (2, 0): 1, (1, 1): 4}])
        self.assert_raises("NotAdding", [(0, 2), 3, 1], taken_out, table, 0)

    def test_a_call_that_raises_changes_nothing(self):
        table = Table([2, 1], {2: 1}, [{(1, 1): 3}, {(2, 0): 1}])
        text = table.text()
        for call in (lambda: taken_out(table, 0), lambda: taken_out(table, 1), lambda: plan_of(table)):
            with self.assertRaises(ValueError):
                call()
            self.assertEqual(table.text(), text)


class Steps(Raising, unittest.TestCase):
    def test_steps(self):
        for table in some_tables():
            told = list(steps(table))
            self.assertEqual(told[0], table)
            self.assertEqual(len(told), 1 + sum(table.sizes) - len(table.sizes))
            for one, following in zip(told, told[1:]):
                index = next(at for at, size in enumerate(one.sizes) if size > 1)
                self.assertEqual(following, taken_out(one, index))
                self.assertEqual(following.merged(index, index + 1), one)
                self.assertIsNone(following.fault())
            self.assertEqual(told[-1].sizes, (1,) * sum(table.sizes))

    def test_a_table_whose_classes_all_are_of_one_person(self):
        table = added_up([1, 1, 1], {2: 2}, 2)
        self.assertEqual([one.text() for one in steps(table)], [table.text()])

    def test_the_error_is_raised_when_the_first_item_is_asked_for(self):
        for sizes in ([3], [1, 2], [1, 1, 1]):
            table = Table(sizes, {2: 1}, [{}])
            kind = kinds_in_order(sizes, {2: 1})[0]
            items = steps(table)
            self.assert_raises("NotAdding", [kind, 0, due(sizes, {2: 1}, kind)], next, items)

    def test_steps_are_found_one_by_one(self):
        items = steps(added_up([10], {2: 2}, 5))
        self.assertEqual([next(items).sizes for _ in range(3)], [(10,), (1, 9), (1, 1, 8)])

    def test_steps_twice_give_equal_tables(self):
        for sizes, games in ALL_SETTINGS:
            table = mixed(sizes, games, 3, 1)
            self.assertEqual(list(steps(table)), list(steps(table)))


class Plans(Raising, unittest.TestCase):
    def test_outlines_and_evenness(self):
        for table in some_tables():
            text = table.text()
            plan = plan_of(table)
            classes = classes_of(table.sizes)
            self.assertIs(type(plan), Plan)
            self.assertEqual((plan.people, plan.games, len(plan)), (sum(table.sizes), table.games, len(table)))
            self.assertEqual(plan.outline(classes), table)
            self.assertTrue(is_even(plan, classes))
            for teams in plan.rounds:
                counts = [sum(person in team for team in teams) for person in range(plan.people)]
                for members in classes:
                    told = [counts[person] for person in members]
                    self.assertLessEqual(max(told) - min(told), 1)
            self.assertEqual(table.text(), text)

    def test_the_plan_is_that_of_the_last_step(self):
        for table in some_tables():
            if len(table) > 5:
                continue
            last = list(steps(table))[-1]
            plan = plan_of(table)
            self.assertEqual(plan.outline([[person] for person in range(plan.people)]), last)

    def test_classes_of_one_person_tell_the_plan_at_once(self):
        rounds = [{(1, 0, 1): 2, (0, 1, 1): 1}, {(1, 1, 0): 2, (0, 1, 1): 1}]
        plan = plan_of(Table([1, 1, 1], {2: 2}, rounds))
        self.assertEqual(plan.rounds, [[(0, 2), (0, 2), (1, 2)], [(0, 1), (0, 1), (1, 2)]])

    def test_outlines_of_a_plan_are_outlines_of_even_plans(self):
        rounds = [[(0, 1), (0, 2), (0, 3), (0, 1)], [(2, 3), (1, 3), (1, 2)], [(0, 2), (0, 3), (1, 2), (1, 3), (2, 3)]]
        plan = Plan(4, {2: 2}, rounds)
        for classes in ([[0, 1, 2, 3]], [[0, 1], [2, 3]], [[0], [1, 2, 3]], [[0, 1, 2], [3]]):
            table = plan.outline(classes)
            even = plan_of(table)
            self.assertEqual(even.outline(classes), table)
            self.assertTrue(is_even(even, classes))

    def test_tables_that_do_not_add_up(self):
        self.assert_raises("NotAdding", [(2,), 2, 3], plan_of, Table([3], {2: 1}, [{(2,): 2}]))
        self.assert_raises("NotAdding", [(1, 1), 5, 4], plan_of, Table([2, 2], {2: 1}, [{(0, 2): 1}, {(1, 1): 5}]))
        self.assert_raises("NotAdding", [(1,), 0, 1], plan_of, Table([1], {1: 1}, [{}]))
        self.assert_raises("NotAdding", [(0, 0, 1), 0, 1], plan_of, Table([1, 1, 1], {1: 1, 2: 1}, [{(1, 0, 0): 5}]))

    def test_most_teams(self):
        self.assertEqual(kinds.team_count([10], {3: 1, 1: 1}), 130)
        plan = plan_of(Table([10], {3: 1, 1: 1}, [{(1,): 1}] * 10 + [{(3,): 1}] * 120))
        self.assertEqual([len(row) for row in plan.rounds], [1] * 130)


if __name__ == "__main__":
    unittest.main()
