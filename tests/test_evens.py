"""Points 50 to 54: even plans."""

import math
import unittest
from copy import deepcopy

from allteams.errors import TeamError
from allteams.evens import even_plan, fewest_rounds, full_plan
from allteams.looks import is_even, is_full
from allteams.plans import Plan
from tests.support import (
    NO_DICTS, NO_INTEGERS, NO_LISTS, PEOPLE, WRONG_PEOPLE, Raising, all_settings, numbers_without_order, total,
)

# What is no item of numbers where pairs and triples play.
NO_NUMBERS = [
    *NO_DICTS, {1: 1}, {4: 0}, {2: 1, 1: 0}, {0: 0}, {-2: 1}, {10**29: 1}, {True: 1}, {False: 0}, {None: 1}, {"2": 1},
    {2.0: 1}, {(2,): 1}, {2: -1}, {3: -(10**29)}, {2: 1, 3: -1}, *[{2: value} for value in NO_INTEGERS],
    *[{2: 1, 3: value} for value in NO_INTEGERS],
]


def spread(people, games, many, first):
    """Numbers with the right sums for so many rounds, without any rule, some sizes left out and some told as 0."""
    order = numbers_without_order(first)
    numbers = [{} for _ in range(many)]
    for size, times in games.items():
        left = times * math.comb(people, size)
        while left:
            some = next(order) % left + 1
            row = numbers[next(order) % many]
            row[size] = row.get(size, 0) + some
            left -= some
        if next(order) % 2:
            numbers[next(order) % many].setdefault(size, 0)
    return numbers


def all_numbers(people, games):
    """Numbers of few and of many rounds."""
    yield [{size: times * math.comb(people, size) for size, times in games.items()}]
    for place, many in enumerate((2, 3, 7, 129, 130)):
        yield spread(people, games, many, place)
        yield spread(people, games, many, 100 * people + place)
    yield [{}] * 60 + spread(people, games, 4, people) + [{}] * 66


class EvenPlans(Raising, unittest.TestCase):
    def assert_even(self, people, games, numbers):
        """Whether even_plan returns what point 51 promises, judged from the teams themselves."""
        plan = even_plan(people, games, numbers)
        self.assertIs(type(plan), Plan)
        self.assertEqual((plan.people, plan.games, len(plan)), (people, games, len(numbers)))
        for told, teams in zip(numbers, plan.rounds):
            for size in games:
                self.assertEqual(sum(len(team) == size for team in teams), told.get(size, 0))
            plays = [sum(person in team for team in teams) for person in range(people)]
            self.assertLessEqual(max(plays) - min(plays), 1)
            if sum(map(len, teams)) <= people:
                self.assertLessEqual(max(plays), 1)
        self.assertTrue(is_even(plan, [list(range(people))]))

    def test_all_people(self):
        for people, games in PEOPLE:
            for numbers in all_numbers(people, games):
                self.assert_even(people, games, numbers)

    def test_all_games_that_have_few_enough_teams(self):
        for people, games in all_settings():
            if total(people, games) <= 130:
                self.assert_even(people, games, spread(people, games, 6, people))

    def test_130_teams_of_one_round_each(self):
        self.assert_even(10, {3: 1, 1: 1}, [{1: 1}] * 10 + [{3: 1}] * 120)
        self.assert_even(10, {3: 1, 1: 1}, [{3: 120, 1: 10}])

    def test_one_person(self):
        self.assertEqual(even_plan(1, {1: 3}, [{1: 1}, {}, {1: 2}]).rounds, [[(0,)], [], [(0,), (0,)]])

    def test_setting_comes_first(self):
        for numbers in ([{2: 6}], None, [], [{}] * 131, [{9: 9}], [{2: 5}]):
            self.assert_people_errors(even_plan, numbers)

    def test_what_are_no_numbers(self):
        games = {2: 1, 3: 1}
        for wrong in [*NO_LISTS, [], (), [{}] * 131, ({},) * 131, [{9: 9}] * 131, [{2: 6, 3: 4}] + [{}] * 130]:
            self.assertIs(self.assert_raises("BadRounds", [wrong], even_plan, 4, games, wrong).value, wrong)
        for item in NO_NUMBERS:
            for wrong in ([item], [{2: 6, 3: 4}, item], (item, {2: 6, 3: 4}), [{2: 5}, item, {9: 9}]):
                self.assertIs(self.assert_raises("BadRounds", [wrong], even_plan, 4, games, wrong).value, wrong)

    def test_wrong_sums(self):
        for people, games in PEOPLE:
            for size, times in games.items():
                due = times * math.comb(people, size)
                for many in (1, 3, 130):
                    numbers = spread(people, games, many, size)
                    numbers[0][size] = numbers[0].get(size, 0) + 1
                    self.assert_raises("WrongSum", [size, due + 1, due], even_plan, people, games, numbers)
                    less = deepcopy(numbers)
                    row = next(row for row in less if row.get(size, 0) > 0)
                    row[size] -= 1
                    self.assert_even(people, games, less)
                    row = next(row for row in less if row.get(size, 0) > 0)
                    row[size] -= 1
                    self.assert_raises("WrongSum", [size, due - 1, due], even_plan, people, games, less)

    def test_the_least_team_size_with_a_wrong_sum_is_told(self):
        for games in ({2: 1, 3: 1}, {3: 1, 2: 1}):
            self.assert_raises("WrongSum", [2, 5, 6], even_plan, 4, games, [{3: 5, 2: 5}])
            self.assert_raises("WrongSum", [3, 5, 4], even_plan, 4, games, [{3: 5, 2: 5}, {2: 1}])
            self.assert_raises("WrongSum", [2, 0, 6], even_plan, 4, games, [{}])
            self.assert_raises("WrongSum", [3, 0, 4], even_plan, 4, games, [{2: 6}])
        self.assert_raises("WrongSum", [2, 10**29 + 1, 6], even_plan, 4, {2: 1}, [{2: 10**29}, {2: 1}])
        self.assert_raises("WrongSum", [1, 2, 6], even_plan, 2, {1: 3}, [{1: 1}, {1: 1}])

    def test_equal_arguments_give_equal_plans(self):
        for people, games in PEOPLE:
            numbers = spread(people, games, 5, 3)
            turned = tuple({size: row[size] for size in reversed(row)} for row in numbers)
            back = {size: games[size] for size in reversed(games)}
            self.assertEqual(even_plan(people, games, numbers), even_plan(people, back, turned))

    def test_arguments_are_not_modified(self):
        games, numbers = {3: 1, 2: 1}, [{3: 4, 2: 1}, {}, {2: 5}]
        before = deepcopy((games, numbers))
        even_plan(4, games, numbers)
        with self.assertRaises(TeamError):
            even_plan(4, games, numbers[:1])
        self.assertEqual((games, numbers, list(games)), (*before, [3, 2]))


class FullPlans(Raising, unittest.TestCase):
    def assert_times_errors(self, call):
        """The errors of point 10 for the games of one team size."""
        for wrong in WRONG_PEOPLE:
            for team in (1, 2, None, True, "2", 5):
                self.assert_raises("BadPeople", [wrong], call, wrong, team)
        for team in (0, -1, 5, 10**29, None, True, False, "", "2"):
            self.assert_raises("BadGames", [{team: 1}], call, 6, team)
            self.assert_raises("BadGames", [{team: 2}], lambda: call(6, team, times=2))
        for times in (0, -1, 4, 10**29, None, True, False, "", "1"):
            self.assert_raises("BadGames", [{2: times}], lambda: call(6, 2, times=times))
            self.assert_raises("BadGames", [{4: times}], lambda: call(9, 4, times=times))
            self.assert_raises("BadGames", [{9: times}], lambda: call(9, 9, times=times))
        for people in (1, 2, 3):
            self.assert_raises("BadGames", [{people + 1: 1}], call, people, people + 1)
        for people in range(1, 11):
            for team in range(1, min(4, people) + 1):
                for times in (1, 2, 3):
                    count = times * math.comb(people, team)
                    if count > 130:
                        self.assert_raises("TooMany", [count], lambda: call(people, team, times=times))
        with self.assertRaises(TypeError):
            call(4, 2, 1)

    def settings(self):
        for people in range(1, 11):
            for team in range(1, min(4, people) + 1):
                for times in (1, 2, 3):
                    if times * math.comb(people, team) <= 130:
                        yield people, team, times

    def test_errors_of_full_plans(self):
        self.assert_times_errors(full_plan)

    def test_errors_of_fewest_rounds(self):
        self.assert_times_errors(fewest_rounds)

    def test_full_plans(self):
        for people, team, times in self.settings():
            if people % team:
                self.assert_raises("NotFull", [people, team], lambda: full_plan(people, team, times=times))
                continue
            plan = full_plan(people, team, times=times)
            self.assertIs(type(plan), Plan)
            self.assertEqual((plan.people, plan.games), (people, {team: times}))
            self.assertEqual(len(plan), times * math.comb(people - 1, team - 1))
            self.assertTrue(is_full(plan))
            for teams in plan.rounds:
                self.assertEqual(sorted(person for one in teams for person in one), list(range(people)))

    def test_fewest_rounds(self):
        for people, team, times in self.settings():
            plan = fewest_rounds(people, team, times=times)
            self.assertIs(type(plan), Plan)
            self.assertEqual((plan.people, plan.games), (people, {team: times}))
            # Rounds without anybody who plays twice have this many teams at most.
            self.assertEqual(len(plan), math.ceil(times * math.comb(people, team) / (people // team)))
            for teams in plan.rounds:
                there = [person for one in teams for person in one]
                self.assertEqual(len(there), len(set(there)))

    def test_times_are_1_if_they_are_not_told(self):
        self.assertEqual(full_plan(6, 2), full_plan(6, 2, times=1))
        self.assertEqual(fewest_rounds(5, 3), fewest_rounds(5, 3, times=1))
        self.assertEqual([len(full_plan(1, 1)), len(fewest_rounds(7, 4)), len(fewest_rounds(9, 2))], [1, 35, 9])


if __name__ == "__main__":
    unittest.main()
