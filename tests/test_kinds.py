"""Points 2 to 4, 8, 10 and 11 to 16: settings and kinds."""

import math
import unittest
from copy import deepcopy
from itertools import combinations, product

from allteams import kinds
from allteams.errors import TeamError
from allteams.kinds import (
    all_kinds, check_setting, choices, class_of, due_of, is_kind, team_count, team_kind, teams_of,
)
from tests.support import (
    NO_INTEGERS, NO_TUPLES, SETTINGS, WRONG_SIZES, Raising, all_settings, kinds_in_order, teams_by_kind, total,
)

NO_KINDS = [
    *NO_TUPLES, (), (2,), (2, 0, 0), (0, 0), (2, 1), (3, 0), (-1, 3), (3, -1), (1, 0), (10**29, 0), (True, 1), (1, True),
    (2, False), (1, None), ("1", 1), (1.0, 1), ([1], 1), (1, (1,)), [1, 1], (1, {}), ((1, 1),), (1, 1, 0),
]
NO_TEAMS = [
    *NO_TUPLES, (), (1, 0), (1, 1), (0, 1, 1), (0, 2, 1), (-1,), (-1, 0), (6,), (0, 6), (0, 1, 2, 3, 4), (0, 10**29),
    (True,), (0, True), (False, 1), (None,), ("0",), (0, "1"), (0.0, 1), ([0], 1), ((0, 1),), (0, {}), [0], [0, 1],
]


class Choices(unittest.TestCase):
    def test_all_that_callers_pass(self):
        for many, few in product(range(61), range(61)):
            self.assertEqual(choices(many, few), math.comb(many, few))

    def test_somewhat_beyond(self):
        self.assertEqual([choices(70, 35), choices(61, 61), choices(5, 61)], [math.comb(70, 35), 1, 0])


class Settings(Raising, unittest.TestCase):
    def test_constants(self):
        self.assertEqual((kinds.MOST_TEAMS, kinds.MOST_ROUNDS), (130, 130))

    def test_errors_of_check_setting_in_order(self):
        self.assert_setting_errors(check_setting)

    def test_errors_of_the_other_functions_in_order(self):
        self.assert_setting_errors(team_count)
        self.assert_setting_errors(all_kinds)
        for rest in [(1, 1), None, (9, 9, 9), []]:
            self.assert_setting_errors(is_kind, rest)
            self.assert_setting_errors(due_of, rest)

    def test_right_settings(self):
        for sizes, games in SETTINGS:
            self.assertIsNone(check_setting(sizes, games))
            self.assertIsNone(check_setting(tuple(sizes), games))

    def test_counts_of_all_numbers_of_people_and_games(self):
        for people, games in all_settings():
            count = total(people, games)
            for sizes in ([people], (people,), [1] * people, [1] * (people - 2) + [min(people, 2)]):
                if count > 130:
                    self.assert_raises("TooMany", [count], check_setting, sizes, games)
                    self.assert_raises("TooMany", [count], team_count, sizes, games)
                else:
                    self.assertIsNone(check_setting(sizes, games))
                    self.assertEqual(team_count(sizes, games), count)

    def test_just_so_many_teams(self):
        self.assertEqual(team_count([10], {3: 1, 1: 1}), 130)
        self.assertEqual(team_count((3, 7), {1: 1, 3: 1}), 130)
        least = min(total(*setting) for setting in all_settings() if total(*setting) > 130)
        beyond = [setting for setting in all_settings() if total(*setting) == least]
        for people, games in beyond:
            self.assert_raises("TooMany", [least], team_count, [people], games)

    def test_just_so_many_people(self):
        self.assertEqual(team_count([10], {2: 2}), 90)
        self.assertEqual(team_count([1] * 10, {2: 2}), 90)
        self.assert_raises("BadSizes", [[11]], team_count, [11], {2: 1})
        self.assert_raises("BadSizes", [[1] * 11], team_count, [1] * 11, {2: 1})

    def test_errors_hold_the_very_values(self):
        sizes, games = [11], {5: 1}
        self.assertIs(self.assert_raises("BadSizes", [sizes], check_setting, sizes, games).value, sizes)
        self.assertIs(self.assert_raises("BadGames", [games], check_setting, [9], games).value, games)


class Kinds(Raising, unittest.TestCase):
    def test_all_kinds_against_all_teams(self):
        for sizes, games in SETTINGS:
            wanted = kinds_in_order(sizes, games)
            self.assertEqual(all_kinds(sizes, games), wanted)
            self.assertEqual(all_kinds(tuple(sizes), dict(reversed(games.items()))), wanted)

    def test_all_kinds_are_tuples_in_a_new_list(self):
        found = all_kinds([2, 2], {2: 1, 1: 1})
        self.assertEqual(found, [(0, 1), (1, 0), (0, 2), (1, 1), (2, 0)])
        found.clear()
        self.assertEqual(len(all_kinds([2, 2], {2: 1, 1: 1})), 5)

    def test_is_kind(self):
        for sizes, games in SETTINGS:
            right = teams_by_kind(sizes, games)
            for value in product(range(-1, 5), repeat=min(len(sizes), 4)):
                self.assertIs(is_kind(sizes, games, value), value in right)
            for value in right:
                self.assertIs(is_kind(sizes, games, value), True)
                self.assertIs(is_kind(sizes, games, list(value)), False)

    def test_is_kind_of_any_value(self):
        for value in NO_KINDS:
            self.assertIs(is_kind([2, 2], {2: 1}, value), False, value)

    def test_due_of(self):
        for sizes, games in SETTINGS:
            for kind, teams in teams_by_kind(sizes, games).items():
                self.assertEqual(due_of(sizes, games, kind), len(teams) * games[sum(kind)])

    def test_due_of_no_kind(self):
        for value in NO_KINDS:
            self.assert_raises("BadKind", [value], due_of, [2, 2], {2: 1}, value)
            self.assert_raises("BadKind", [value], due_of, (2, 2), {2: 3}, value)

    def test_sums_that_are_no_team_sizes(self):
        for kind in [(1, 0), (1, 1), (2, 0), (2, 2)]:
            self.assertIs(is_kind([2, 2], {3: 1}, kind), False)
            self.assert_raises("BadKind", [kind], due_of, [2, 2], {3: 1}, kind)


class People(Raising, unittest.TestCase):
    def test_class_of(self):
        for sizes, _ in SETTINGS:
            wanted = [index for index, size in enumerate(sizes) for _ in range(size)]
            self.assertEqual([class_of(sizes, person) for person in range(sum(sizes))], wanted)
            self.assertEqual([class_of(tuple(sizes), person) for person in range(sum(sizes))], wanted)

    def test_class_of_wrong_people(self):
        for value in [*NO_INTEGERS, -1, 5, 6, 10, 10**29, -(10**29)]:
            self.assert_raises("BadPerson", [value], class_of, [2, 3], value)
            for sizes in WRONG_SIZES:
                self.assert_raises("BadSizes", [sizes], class_of, sizes, value)

    def test_wrong_sizes_come_first(self):
        for sizes in WRONG_SIZES:
            self.assert_raises("BadSizes", [sizes], class_of, sizes, 0)
            self.assert_raises("BadSizes", [sizes], team_kind, sizes, (0,))
            self.assert_raises("BadSizes", [sizes], team_kind, sizes, None)

    def test_team_kind(self):
        for sizes, _ in SETTINGS:
            for kind, teams in teams_by_kind(sizes, {1: 1, 2: 1, 3: 1, 4: 1}).items():
                for team in teams:
                    self.assertEqual(team_kind(sizes, team), kind)
                    self.assertEqual(team_kind(tuple(sizes), team), kind)

    def test_team_kind_of_no_team(self):
        for value in NO_TEAMS:
            self.assert_raises("BadTeam", [value], team_kind, [2, 3, 1], value)

    def test_four_people_are_a_team_and_five_are_not(self):
        self.assertEqual(team_kind([1, 9], (0, 5, 8, 9)), (1, 3))
        self.assert_raises("BadTeam", [(0, 1, 5, 8, 9)], team_kind, [1, 9], (0, 1, 5, 8, 9))


class Teams(Raising, unittest.TestCase):
    def test_teams_of_all_kinds(self):
        for sizes, _ in SETTINGS:
            for kind, teams in teams_by_kind(sizes, {1: 1, 2: 1, 3: 1, 4: 1}).items():
                self.assertEqual(list(teams_of(sizes, kind)), sorted(teams))
                many = math.prod(math.comb(size, few) for size, few in zip(sizes, kind))
                self.assertEqual(len(list(teams_of(tuple(sizes), kind))), many)

    def test_all_teams_of_four_out_of_ten(self):
        self.assertEqual(list(teams_of([10], (4,))), list(combinations(range(10), 4)))

    def test_wrong_kinds(self):
        wrong = [
            *NO_TUPLES, (), (1,), (1, 1, 1), (0, 0), (-1, 1), (0, -1), (4, 0), (0, 3), (3, 2), (True, 1), (1, False),
            (None, 1), (1, "1"), (1.0, 1), ([1], 1), [1, 1], (10**29, 1),
        ]
        for value in wrong:
            self.assert_raises("BadKind", [value], lambda kind: list(teams_of([3, 2], kind)), value)
            for sizes in WRONG_SIZES:
                self.assert_raises("BadSizes", [sizes], lambda given, kind: list(teams_of(given, kind)), sizes, value)

    def test_sums_from_one_to_four(self):
        self.assertEqual(len(list(teams_of([5, 5], (2, 2)))), 100)
        self.assert_raises("BadKind", [(3, 2)], lambda kind: list(teams_of([5, 5], kind)), (3, 2))
        self.assertEqual(list(teams_of([1, 1], (0, 1))), [(1,)])

    def test_errors_are_raised_when_the_first_team_is_asked_for(self):
        for sizes, kind, error in [([], (1,), "BadSizes"), (None, None, "BadSizes"), ([2], (3,), "BadKind")]:
            teams = teams_of(sizes, kind)
            with self.assertRaises(TeamError) as caught:
                next(teams)
            self.assertEqual(type(caught.exception).__name__, error)

    def test_it_is_a_generator(self):
        teams = teams_of([2, 2], (1, 1))
        self.assertEqual(iter(teams), teams)
        self.assertEqual([next(teams), next(teams), list(teams)], [(0, 2), (0, 3), [(1, 2), (1, 3)]])

    def test_sizes_that_are_changed_later_mean_nothing(self):
        sizes = [2, 2]
        teams = teams_of(sizes, (1, 1))
        self.assertEqual(next(teams), (0, 2))
        sizes.clear()
        self.assertEqual(list(teams), [(0, 3), (1, 2), (1, 3)])


class Arguments(unittest.TestCase):
    def test_arguments_are_not_modified(self):
        sizes, games = [3, 1, 2], {3: 1, 2: 2}
        before = deepcopy((sizes, games))
        calls = [
            lambda: check_setting(sizes, games), lambda: team_count(sizes, games), lambda: all_kinds(sizes, games),
            lambda: is_kind(sizes, games, (1, 1, 0)), lambda: due_of(sizes, games, (1, 1, 0)),
            lambda: due_of(sizes, games, (9, 9, 9)), lambda: class_of(sizes, 3), lambda: class_of(sizes, 6),
            lambda: team_kind(sizes, (0, 3)), lambda: team_kind(sizes, (3, 0)),
            lambda: list(teams_of(sizes, (1, 1, 0))), lambda: list(teams_of(sizes, (1, 1))),
        ]
        for call in calls:
            try:
                call()
            except TeamError:
                pass
            self.assertEqual((sizes, games), before)
            self.assertEqual(list(games), [3, 2])


if __name__ == "__main__":
    unittest.main()
