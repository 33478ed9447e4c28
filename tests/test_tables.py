"""Points 5, 8 to 10 and 18 to 23: tables."""

import unittest
from copy import deepcopy
from itertools import permutations, product

from allteams.errors import TeamError
from allteams.kinds import due_of
from allteams.tables import Table
from tests.support import (
    NO_DICTS, NO_INTEGERS, NO_LISTS, SETTINGS, Raising, kinds_in_order, teams_by_kind,
)

NO_KINDS = [
    *NO_INTEGERS, 0, -1, (0, 0), (1, 0), (2, 1), (3, -1), (-1, 3), (2, 0, 0), (2,), (1, 1.0), (True, 1), (1, None),
    ([1], 1), ("1", "1"), [1, 1], [0, 2], ((1, 1),),
]


def filled(sizes, games, rounds):
    """A table with other numbers at each place, some of them 0; it need not add up."""
    kinds = kinds_in_order(sizes, games)
    numbers = [
        {kind: (7 * at + 5 * place + at * place) % 4 for place, kind in enumerate(kinds)} for at in range(rounds)
    ]
    return Table(sizes, games, numbers), numbers


def added_up(sizes, games, rounds):
    """A table that adds up: the teams of each kind are dealt out to the rounds in turn."""
    numbers = [{} for _ in range(rounds)]
    turn = 0
    for kind in reversed(kinds_in_order(sizes, games)):
        for _ in range(due_of(sizes, games, kind)):
            numbers[turn % rounds][kind] = numbers[turn % rounds].get(kind, 0) + 1
            turn += 3 if rounds % 3 else 1
    return Table(sizes, games, numbers)


class Building(Raising, unittest.TestCase):
    def test_setting_comes_first(self):
        for rounds in ([], None, [{(9, 9): -1}], [{}] * 131):
            self.assert_setting_errors(Table, rounds)

    def test_wrong_rounds(self):
        for wrong in [*NO_LISTS, [], (), [{}] * 131, ({},) * 131, [{}] * 500]:
            self.assert_raises("BadRounds", [wrong], Table, [2, 2], {2: 1}, wrong)
        for item in NO_DICTS:
            for wrong in ([item], [{}, item], ({(9, 9): -1}, item, {})):
                error = self.assert_raises("BadRounds", [wrong], Table, [2, 2], {2: 1}, wrong)
                self.assertIs(error.value, wrong)

    def test_from_one_to_130_rounds(self):
        self.assertEqual(len(Table([2, 2], {2: 1}, [{}])), 1)
        self.assertEqual(len(Table([2, 2], {2: 1}, [{}] * 130)), 130)
        self.assertEqual(len(Table([2, 2], {2: 1}, ({},) * 130)), 130)

    def test_wrong_kinds(self):
        for wrong in [(0, 0), (1, 0), (2, 1), (3, -1), (-1, 3), (2, 0, 0), (2,), (), (True, 1), (10**29, 0)]:
            self.assert_raises("BadKind", [wrong], Table, [2, 2], {2: 1}, [{wrong: 1}])
            self.assert_raises("BadKind", [wrong], Table, [2, 2], {2: 1}, [{(1, 1): 1}, {wrong: 0}])

    def test_wrong_keys_of_other_sorts(self):
        for wrong in [None, True, 0, 1, "", "1,1", b"", 1.5, ("1", "1"), (1, None), (1.0, 1), ((1, 1),)]:
            self.assert_raises("BadKind", [wrong], Table, [2, 2], {2: 1}, [{wrong: 1}])
            self.assert_raises("BadKind", [wrong], Table, [2, 2], {2: 1}, [{wrong: 1, (2, 0): 1, (0, 2): 1}])

    def test_wrong_numbers(self):
        for wrong in [*NO_INTEGERS, -1, -(10**29)]:
            self.assert_raises("BadNumber", [wrong], Table, [2, 2], {2: 1}, [{(1, 1): wrong}])
            self.assert_raises("BadNumber", [wrong], Table, [2, 2], {2: 1}, [{}, {(0, 2): 3, (1, 1): wrong}])

    def test_errors_come_round_by_round_and_key_by_key(self):
        setting = [2, 2], {2: 1}
        self.assert_raises("BadNumber", [-1], Table, *setting, [{(2, 0): -1}, {(0, 0): 1}])
        self.assert_raises("BadKind", [(0, 0)], Table, *setting, [{(0, 0): 1}, {(0, 2): -1}])
        self.assert_raises("BadNumber", [-5], Table, *setting, [{(2, 1): 1, (2, 0): -6, (1, 1): -5}])
        self.assert_raises("BadKind", [(1, 2)], Table, *setting, [{(2, 1): 1, (2, 0): -6, (1, 2): -5}])
        self.assert_raises("BadKind", [(0, 0, 5)], Table, *setting, [{(0, 1): 1, (0, 0, 5): 1}])
        self.assert_raises("BadKind", [(0,)], Table, *setting, [{(0, 0): 1, (0,): None}])
        self.assert_raises("BadKind", [(-1, 9)], Table, *setting, [{(0, 2): None, (-1, 9): None}])

    def test_keys_are_ordered_as_tuples_and_not_by_their_sums(self):
        setting = [3, 3], {1: 1, 3: 1}
        self.assert_raises("BadNumber", [-3], Table, *setting, [{(1, 0): -1, (0, 3): -3}])
        self.assert_raises("BadNumber", [-1], Table, *setting, [{(1, 2): -3, (1, 0): -1}])

    def test_tables_need_not_add_up(self):
        table = Table([2, 2], {2: 1}, [{(1, 1): 100}])
        self.assertEqual(table.number(0, (1, 1)), 100)

    def test_numbers_of_30_digits(self):
        big = 10**30 - 1
        table = Table([2, 2], {2: 1}, [{(1, 1): big, (0, 2): 1}, {(1, 1): big}])
        self.assertEqual([table.number(0, (1, 1)), table.teams(0), table.places(0, 1)], [big, big + 1, big + 2])
        self.assertEqual(table.sums()[1, 1], 2 * big)
        self.assertEqual(table.fault(), ((1, 1), 2 * big, 4))
        self.assertEqual(table.merged(0, 1).rounds, [{(2,): big + 1}, {(2,): big}])

    def test_greatest_setting(self):
        sizes, games = [1] * 10, {1: 1, 3: 1}
        kinds = kinds_in_order(sizes, games)
        self.assertEqual(len(kinds), 130)
        table = Table(sizes, games, [{kind: 1} for kind in reversed(kinds)])
        self.assertEqual([len(table), table.fault(), table.teams(0), table.teams(129)], [130, None, 1, 1])
        self.assertEqual(Table.read(table.text()), table)
        self.assertEqual(table.merged(9, 0).sizes, (2,) + (1,) * 8)
        crowd = Table(sizes, games, [{kind: 1 for kind in kinds}] * 130)
        self.assertEqual(crowd.fault(), ((0,) * 9 + (1,), 130, 1))


class Copies(unittest.TestCase):
    def test_what_is_passed_is_copied(self):
        sizes, games, rounds = [2, 2], {2: 1}, [{(1, 1): 2}, {(0, 2): 1}]
        table = Table(sizes, games, rounds)
        text = table.text()
        rounds[0][1, 1] = 5
        rounds[1].clear()
        rounds.append({})
        sizes.append(1)
        games[3] = 2
        self.assertEqual(table.text(), text)
        self.assertEqual((table.sizes, table.games), ((2, 2), {2: 1}))
        self.assertEqual(table.rounds, [{(1, 1): 2}, {(0, 2): 1}])

    def test_one_dict_for_several_rounds(self):
        row = {(1, 1): 2}
        table = Table([2, 2], {2: 1}, [row] * 3)
        found = table.rounds
        found[0][1, 1] = 7
        self.assertEqual(found, [{(1, 1): 7}, {(1, 1): 2}, {(1, 1): 2}])

    def test_what_is_returned_is_new(self):
        table = Table([2, 2], {2: 1}, [{(1, 1): 2}, {(0, 2): 1}])
        text = table.text()
        table.rounds[0][1, 1] = 5
        table.rounds.clear()
        table.games[3] = 3
        table.sums()[1, 1] = 8
        self.assertEqual((table.text(), table.games, table.sums()[1, 1]), (text, {2: 1}, 2))

    def test_arguments_are_not_modified(self):
        sizes, games, rounds, order = [1, 2, 1], {3: 1, 2: 2}, [{(1, 1, 0): 0, (0, 2, 1): 4}, {}], [2, 0, 1]
        before = deepcopy((sizes, games, rounds, order))
        table = Table(sizes, games, rounds)
        table.moved(order)
        table.merged(2, 0)
        table.fault()
        self.assertEqual((sizes, games, rounds, order), before)
        self.assertEqual((list(games), list(rounds[0])), ([3, 2], [(1, 1, 0), (0, 2, 1)]))

    def test_a_call_that_raises_changes_nothing(self):
        table = Table([2, 2], {2: 1}, [{(1, 1): 2}, {(0, 2): 1}])
        text = table.text()
        calls = [
            lambda: table.number(2, (1, 1)), lambda: table.number(0, (1, 2)), lambda: table.teams(-1),
            lambda: table.teams(0, 3), lambda: table.places(0, 2), lambda: table.places(9, 0),
            lambda: table.merged(0, 0), lambda: table.merged(2, 0), lambda: table.moved([0, 0]),
            lambda: table.moved(None), lambda: Table.read("sizes 2"), lambda: Table([2, 2], {2: 1}, [{(1, 1): -1}]),
        ]
        for call in calls:
            with self.assertRaises(TeamError):
                call()
            self.assertEqual(table.text(), text)


class Looking(Raising, unittest.TestCase):
    def test_properties(self):
        for sizes, games in SETTINGS:
            table, numbers = filled(sizes, games, 4)
            self.assertEqual((table.sizes, table.games, len(table)), (tuple(sizes), games, 4))
            self.assertIs(type(table.sizes), tuple)
            self.assertIs(type(table.games), dict)
            self.assertIs(type(table.rounds), list)
            wanted = [{kind: number for kind, number in row.items() if number > 0} for row in numbers]
            self.assertEqual(table.rounds, wanted)

    def test_number(self):
        for sizes, games in SETTINGS:
            table, numbers = filled(sizes, games, 3)
            for at, row in enumerate(numbers):
                self.assertEqual({kind: table.number(at, kind) for kind in row}, row)
        self.assertEqual(Table([2, 2], {2: 1}, [{}]).number(0, (1, 1)), 0)

    def test_wrong_rounds(self):
        table, _ = filled([2, 2], {2: 1}, 3)
        for at in [*NO_INTEGERS, -1, 3, 4, 130, 10**29, -(10**29)]:
            for rest in [(1, 1), None, (9, 9)]:
                self.assert_raises("BadRound", [at], table.number, at, rest)
            for rest in [(), (None,), (2,), (7,), ("2",)]:
                self.assert_raises("BadRound", [at], table.teams, at, *rest)
            for rest in [0, 7, None]:
                self.assert_raises("BadRound", [at], table.places, at, rest)

    def test_wrong_kinds(self):
        table, _ = filled([2, 2], {2: 1}, 3)
        for kind in NO_KINDS:
            self.assert_raises("BadKind", [kind], table.number, 2, kind)

    def test_teams(self):
        for sizes, games in SETTINGS:
            table, numbers = filled(sizes, games, 3)
            for at, row in enumerate(numbers):
                self.assertEqual(table.teams(at), sum(row.values()))
                self.assertEqual(table.teams(at, None), sum(row.values()))
                for size in games:
                    wanted = sum(number for kind, number in row.items() if sum(kind) == size)
                    self.assertEqual(table.teams(at, size), wanted)

    def test_teams_of_wrong_sizes(self):
        table, _ = filled([2, 2], {2: 1, 1: 1}, 3)
        wrong = [value for value in NO_INTEGERS if value is not None]
        for size in [*wrong, 0, 3, 4, 5, -1, -2, 10**29]:
            self.assert_raises("BadNumber", [size], table.teams, 1, size)

    def test_places(self):
        for sizes, games in SETTINGS:
            table, numbers = filled(sizes, games, 3)
            for at, index in product(range(3), range(len(sizes))):
                wanted = sum(number * kind[index] for kind, number in numbers[at].items())
                self.assertEqual(table.places(at, index), wanted)

    def test_places_of_wrong_classes(self):
        table, _ = filled([2, 1, 1], {2: 1}, 3)
        for index in [*NO_INTEGERS, -1, 3, 4, 10**29]:
            self.assert_raises("BadIndex", [index], table.places, 0, index)

    def test_sums(self):
        for sizes, games in SETTINGS:
            table, numbers = filled(sizes, games, 5)
            wanted = {kind: sum(row[kind] for row in numbers) for kind in teams_by_kind(sizes, games)}
            self.assertEqual(table.sums(), wanted)
        self.assertEqual(Table([1, 1], {1: 2}, [{}]).sums(), {(0, 1): 0, (1, 0): 0})

    def test_fault(self):
        for sizes, games in SETTINGS:
            for rounds in (1, 2, 5, 130):
                table = added_up(sizes, games, rounds)
                self.assertIsNone(table.fault())
            kinds = kinds_in_order(sizes, games)
            teams = teams_by_kind(sizes, games)
            due = {kind: len(teams[kind]) * games[sum(kind)] for kind in kinds}
            for first, change in product(kinds, (-1, 1)):
                wrong = {kind: due[kind] for kind in kinds[: kinds.index(first)]}
                wrong.update({kind: due[kind] + change for kind in reversed(kinds[kinds.index(first) :])})
                told = Table(sizes, games, [{}, wrong]).fault()
                self.assertEqual(told, (first, due[first] + change, due[first]))
                self.assertIs(type(told), tuple)

    def test_fault_follows_the_order_of_the_kinds_and_not_of_the_tuples(self):
        self.assertEqual(Table([2, 2], {2: 1, 1: 1}, [{}]).fault(), ((0, 1), 0, 2))
        self.assertEqual(Table([2, 2], {2: 1, 1: 1}, [{(0, 1): 2}]).fault(), ((1, 0), 0, 2))

    def test_one_round_too_many_for_a_sum(self):
        table = Table([2, 2], {2: 1}, [{(0, 2): 1, (1, 1): 4}, {(2, 0): 1}, {(1, 1): 1}])
        self.assertEqual(table.fault(), ((1, 1), 5, 4))


class Equality(unittest.TestCase):
    def test_zeros_lists_and_orders_mean_nothing(self):
        one = Table([2, 2], {2: 1, 1: 2}, [{(1, 1): 2, (0, 2): 0, (1, 0): 1}, {}])
        other = Table((2, 2), {1: 2, 2: 1}, ({(1, 0): 1, (1, 1): 2}, {(2, 0): 0}))
        self.assertTrue(one == other)
        self.assertFalse(one != other)
        self.assertEqual(one.text(), other.text())

    def test_what_makes_tables_unlike(self):
        one = Table([2, 2], {2: 1}, [{(1, 1): 1}, {}])
        others = [
            Table([2, 2], {2: 1}, [{(1, 1): 2}, {}]), Table([2, 2], {2: 1}, [{}, {(1, 1): 1}]),
            Table([2, 2], {2: 1}, [{(1, 1): 1}]), Table([2, 2], {2: 1}, [{(1, 1): 1}, {}, {}]),
            Table([2, 2], {2: 2}, [{(1, 1): 1}, {}]), Table([2, 2], {2: 1, 1: 1}, [{(1, 1): 1}, {}]),
            Table([1, 2], {2: 1}, [{(1, 1): 1}, {}]), Table([2, 1], {2: 1}, [{(1, 1): 1}, {}]),
            Table([2, 2], {2: 1}, [{(2, 0): 1}, {}]),
        ]
        for other in others:
            self.assertFalse(one == other)
            self.assertTrue(one != other)

    def test_other_values(self):
        table = Table([2, 2], {2: 1}, [{(1, 1): 1}])
        for value in [None, True, 0, 1, "", table.text(), [], table.rounds, (), {}, object(), Table]:
            self.assertFalse(table == value)
            self.assertFalse(value == table)
            self.assertTrue(table != value)


class Merging(Raising, unittest.TestCase):
    def test_all_pairs_of_classes(self):
        for sizes, games in SETTINGS:
            table, numbers = filled(sizes, games, 3)
            for one, other in permutations(range(len(sizes)), 2):
                groups = [[index] for index in range(len(sizes)) if index != max(one, other)]
                groups[min(one, other)].append(max(one, other))
                rounds = []
                for row in numbers:
                    merged = {}
                    for kind, number in row.items():
                        place = tuple(sum(kind[index] for index in group) for group in groups)
                        merged[place] = merged.get(place, 0) + number
                    rounds.append(merged)
                parts = [sum(sizes[index] for index in group) for group in groups]
                self.assertEqual(table.merged(one, other), Table(parts, games, rounds))

    def test_numbers_of_kinds_that_become_equal(self):
        table = Table([1, 2, 1], {2: 1}, [{(1, 1, 0): 1, (0, 1, 1): 2, (1, 0, 1): 4, (0, 2, 0): 8}])
        self.assertEqual(table.merged(2, 0).rounds, [{(1, 1): 3, (2, 0): 4, (0, 2): 8}])
        self.assertEqual(table.merged(0, 2).sizes, (2, 2))
        self.assertEqual(table.merged(1, 2).rounds, [{(1, 1): 5, (0, 2): 10}])
        self.assertEqual(table.merged(1, 2).sizes, (1, 3))

    def test_wrong_classes(self):
        table, _ = filled([2, 1, 1], {2: 1}, 2)
        for wrong in [*NO_INTEGERS, -1, 3, 10**29]:
            for other in (0, 1, wrong, None, -2):
                self.assert_raises("BadIndex", [wrong], table.merged, wrong, other)
            self.assert_raises("BadIndex", [wrong], table.merged, 0, wrong)
        for index in range(3):
            self.assert_raises("BadIndex", [index], table.merged, index, index)

    def test_a_single_class(self):
        table = Table([3], {2: 1}, [{(2,): 3}])
        self.assert_raises("BadIndex", [0], table.merged, 0, 0)
        self.assert_raises("BadIndex", [1], table.merged, 0, 1)
        self.assert_raises("BadIndex", [1], table.merged, 1, 0)

    def test_tables_that_add_up(self):
        for sizes, games in SETTINGS:
            table = added_up(sizes, games, 4)
            for one, other in permutations(range(len(sizes)), 2):
                self.assertIsNone(table.merged(one, other).fault())

    def test_the_table_stays(self):
        table = added_up([2, 1, 1], {2: 1}, 3)
        text = table.text()
        self.assertEqual(len(table.merged(0, 1)), 3)
        self.assertEqual(table.text(), text)


class Moving(Raising, unittest.TestCase):
    def test_all_orders(self):
        for sizes, games in SETTINGS:
            if len(sizes) > 4:
                continue
            table, numbers = filled(sizes, games, 3)
            for order in permutations(range(len(sizes))):
                rounds = [{tuple(kind[k] for k in order): row[kind] for kind in row} for row in numbers]
                wanted = Table([sizes[k] for k in order], games, rounds)
                self.assertEqual(table.moved(order), wanted)
                self.assertEqual(table.moved(list(order)), wanted)

    def test_an_order_that_is_not_its_own_inverse(self):
        table = Table([1, 2, 3], {2: 1}, [{(1, 1, 0): 5, (0, 0, 2): 1}])
        moved = table.moved([1, 2, 0])
        self.assertEqual((moved.sizes, moved.rounds), ((2, 3, 1), [{(1, 0, 1): 5, (0, 2, 0): 1}]))

    def test_ten_classes(self):
        sizes, games = [1] * 10, {3: 1, 1: 1}
        table = added_up(sizes, games, 11)
        order = [3, 1, 4, 0, 5, 9, 2, 6, 8, 7]
        back = [order.index(k) for k in range(10)]
        self.assertIsNone(table.moved(order).fault())
        self.assertNotEqual(table.moved(order), table)
        self.assertEqual(table.moved(order).moved(back), table)

    def test_wrong_orders(self):
        table, _ = filled([2, 1, 1], {2: 1}, 2)
        wrong = [
            *NO_LISTS, [], (), [0, 1], [0, 1, 2, 3], [0, 1, 1], [1, 2, 3], [-1, 0, 1], [0, 0, 0], [0, 1, 2, 2],
            [0, 1, 10**29], [False, 1, 2], [0, True, 2], (0, 1, True), [None, 1, 2], ["0", "1", "2"], [0.0, 1, 2],
            [[0], 1, 2], [(0,), (1,), (2,)], [{}, 1, 2], "012", b"\x00\x01\x02", {0: 0, 1: 1, 2: 2}, {0, 1, 2}, range(3),
        ]
        for order in wrong:
            self.assertIs(self.assert_raises("BadClasses", [order], table.moved, order).value, order)

    def test_tables_that_add_up(self):
        for sizes, games in SETTINGS:
            table = added_up(sizes, games, 4)
            order = list(range(len(sizes)))[::-1]
            self.assertIsNone(table.moved(order).fault())
            self.assertEqual(table.moved(order).moved(order), table)


if __name__ == "__main__":
    unittest.main()
