"""Points 6, 8 to 10 and 26 to 31: plans."""

import unittest
from collections import Counter
from copy import deepcopy
from itertools import permutations

from allteams.errors import TeamError
from allteams.plans import Plan
from allteams.tables import Table
from tests.support import (
    NO_INTEGERS, NO_LISTS, NO_TUPLES, PEOPLE, WRONG_CLASSES, Raising, dealt_out, partings, some_plan, teams_in_order,
)

ROUNDS = [[(2, 3), (0, 1)], [(0, 2), (1, 3)], [(1, 2), (0, 3)]]

# What is no team of four people where pairs play.
NO_TEAMS = [
    *NO_TUPLES, (), (0,), (3,), (0, 1, 2), (0, 1, 2, 3), (0, 0), (1, 0), (3, 2), (0, 4), (-1, 0), (4, 5), (0, 10**29),
    (False, 1), (0, True), (0, 1.0), (0, None), ("0", "1"), ((0, 1),), ((0,), (1,)), [0, 1], [2, 3], "01", b"\x00\x01",
    {0: 1, 1: 1}, range(2), (0, 1, 1), ([0], [1]), (0, 1, 2, 3, 4),
]


class Building(Raising, unittest.TestCase):
    def test_setting_comes_first(self):
        for rounds in ([], None, [[(9, 9)]], [[]] * 131, [[(0, 1)]]):
            self.assert_people_errors(Plan, rounds)

    def test_wrong_rounds(self):
        for wrong in [*NO_LISTS, [], (), [[]] * 131, ((),) * 131, [[]] * 500, [[(9, 9)]] * 131]:
            self.assertIs(self.assert_raises("BadRounds", [wrong], Plan, 4, {2: 1}, wrong).value, wrong)
        for item in NO_LISTS:
            for wrong in ([item], [[], item], ([(9, 9)], item, []), [[(0, 1)], item]):
                self.assertIs(self.assert_raises("BadRounds", [wrong], Plan, 4, {2: 1}, wrong).value, wrong)

    def test_from_one_to_130_rounds(self):
        for many in (1, 2, 129, 130):
            self.assertEqual(len(Plan(4, {2: 1}, [[]] * (many - 1) + [teams_in_order(4, {2: 1})])), many)
        plan = Plan(10, {3: 1, 1: 1}, tuple((team,) for team in teams_in_order(10, {3: 1, 1: 1})))
        self.assertEqual((len(plan), plan.rounds[129]), (130, [(7, 8, 9)]))

    def test_wrong_teams(self):
        for wrong in NO_TEAMS:
            for rounds in ([[wrong]], [[], [(0, 1), wrong, (9, 9)], [None]], ([(0, 1)] * 9, (wrong, wrong))):
                self.assert_raises("BadTeam", [wrong], Plan, 4, {2: 1}, rounds)

    def test_first_wrong_team_as_the_rounds_and_items_stand(self):
        self.assert_raises("BadTeam", [(3, 1)], Plan, 4, {2: 1}, [[(0, 1), (3, 1), (1, 0)], [(0,)]])
        self.assert_raises("BadTeam", [(3, 1)], Plan, 4, {2: 1}, [[(0, 1)], [(3, 1)], [(0,)]])
        self.assert_raises("BadTeam", [(0, 1)], Plan, 4, {3: 1, 1: 1}, [[(2,)], [(0, 1, 2), (0, 1), (0,), (2, 3)]])

    def test_teams_have_the_sizes_of_the_games(self):
        for size in (1, 2, 3, 4):
            plan = Plan(5, {size: 1}, [teams_in_order(5, {size: 1})])
            for other in (1, 2, 3, 4):
                team = tuple(range(other))
                if other != size:
                    self.assert_raises("BadTeam", [team], Plan, 5, {size: 1}, [*plan.rounds, [team]])
                    self.assert_raises("BadTeam", [team], plan.rounds_of, team)

    def test_each_team_missing_or_once_too_often(self):
        for people, games in PEOPLE:
            rounds = dealt_out(people, games, 3)
            for team in teams_in_order(people, games):
                due = games[len(team)]
                less = deepcopy(rounds)
                next(row for row in less if team in row).remove(team)
                self.assert_raises("WrongTimes", [team, due - 1], Plan, people, games, less)
                self.assert_raises("WrongTimes", [team, due + 1], Plan, people, games, [*rounds, [team]])
                self.assert_raises("WrongTimes", [team, due + 2], Plan, people, games, [[team, team], *rounds])

    def test_first_wrong_team_in_the_order_of_the_teams(self):
        self.assert_raises("WrongTimes", [(0,), 0], Plan, 3, {2: 1, 1: 1}, [[]])
        self.assert_raises("WrongTimes", [(2,), 2], Plan, 3, {2: 1, 1: 1}, [[(0, 1), (0, 1), (2,), (2,)], [(1,), (0,)]])
        self.assert_raises("WrongTimes", [(0, 2), 0], Plan, 3, {2: 1}, [[(1, 2), (1, 2), (0, 1)]])
        self.assert_raises("WrongTimes", [(0, 1), 3], Plan, 3, {2: 2}, [[(1, 2), (0, 1)], [(0, 1)], [(0, 1)]])
        self.assert_raises("WrongTimes", [(0, 3), 2], Plan, 4, {2: 1}, [[(1, 2), (1, 2), (0, 3), (0, 3), (0, 1), (0, 2)]])

    def test_wrong_teams_come_before_wrong_times(self):
        self.assert_raises("BadTeam", [(3, 2)], Plan, 4, {2: 1}, [[(0, 1), (0, 1)], [(3, 2)]])

    def test_empty_rounds_and_a_team_several_times_in_a_round(self):
        plan = Plan(2, {2: 3, 1: 2}, [[], [(0, 1), (1,), (0, 1), (1,), (0, 1)], [], [(0,), (0,)], []])
        self.assertEqual(plan.rounds, [[], [(1,), (1,), (0, 1), (0, 1), (0, 1)], [], [(0,), (0,)], []])


class Copies(unittest.TestCase):
    def test_what_is_passed_is_copied(self):
        games, rounds = {2: 1}, deepcopy(ROUNDS)
        plan = Plan(4, games, rounds)
        text = plan.text()
        rounds[0].append((0, 1))
        rounds[1].clear()
        rounds.append([])
        games[3] = 1
        self.assertEqual((plan.text(), plan.games, len(plan)), (text, {2: 1}, 3))

    def test_one_list_for_several_rounds(self):
        row = [(0, 1)]
        plan = Plan(2, {2: 3}, [row, row, row])
        found = plan.rounds
        found[0].append((0, 1))
        row.clear()
        self.assertEqual(found, [[(0, 1), (0, 1)], [(0, 1)], [(0, 1)]])
        self.assertEqual(plan.rounds, [[(0, 1)]] * 3)

    def test_what_is_returned_is_new(self):
        plan = Plan(4, {2: 1}, ROUNDS)
        text = plan.text()
        plan.rounds[0].append((0, 1))
        plan.rounds[1].clear()
        plan.rounds.clear()
        plan.games[2] = 3
        plan.rounds_of((0, 1)).append(5)
        plan.outline([[0, 1, 2, 3]]).rounds.clear()
        for other in (plan.renamed([0, 1, 2, 3]), plan.moved([0, 1, 2]), plan + plan, Plan.read(text)):
            other.rounds[0].clear()
            other.games.clear()
        self.assertEqual((plan.text(), plan.games, plan.rounds_of((0, 1))), (text, {2: 1}, [0]))

    def test_what_an_error_holds_can_be_changed(self):
        plan = Plan(4, {2: 1}, [*ROUNDS, *[[]] * 63])
        text = plan.text()
        with self.assertRaises(TeamError) as caught:
            plan + plan
        caught.exception.value[0].clear()
        caught.exception.value[66].clear()
        caught.exception.value.clear()
        self.assertEqual(plan.text(), text)

    def test_arguments_are_not_modified(self):
        games, rounds = {2: 1, 1: 1}, [[(1, 2), (0, 1)], [(1,), (0, 2), (0,), (2,)]]
        classes, names, order = [[2], [1, 0]], [2, 0, 1], [1, 0]
        before = deepcopy((games, rounds, classes, names, order))
        plan = Plan(3, games, rounds)
        plan.outline(classes)
        plan.renamed(names)
        plan.moved(order)
        self.assertEqual((games, rounds, classes, names, order), before)
        self.assertEqual(list(games), [2, 1])

    def test_a_call_that_raises_changes_nothing(self):
        plan = Plan(4, {2: 1}, ROUNDS)
        text = plan.text()
        calls = [
            lambda: plan.rounds_of((1, 0)), lambda: plan.outline([[0, 1]]), lambda: plan.renamed([0, 1, 2]),
            lambda: plan.moved([0, 1, 1]), lambda: plan + Plan(1, {1: 1}, [[(0,)]]), lambda: plan + plan + plan + plan,
            lambda: Plan.read(text + "\nround 0,1"), lambda: Plan.read("people 4"), lambda: Plan(4, {2: 1}, [[]]),
        ]
        for call in calls:
            with self.assertRaises(TeamError):
                call()
            self.assertEqual(plan.text(), text)


class Looking(Raising, unittest.TestCase):
    def test_properties(self):
        for people, games in PEOPLE:
            for many in (1, 3, 130):
                rounds = dealt_out(people, games, many)
                plan = Plan(people, games, rounds)
                self.assertEqual((plan.people, plan.games, len(plan)), (people, games, many))
                self.assertEqual([type(plan.people), type(plan.games), type(plan.rounds)], [int, dict, list])
                wanted = [sorted(sorted(row), key=len) for row in rounds]
                self.assertEqual(plan.rounds, wanted)
                self.assertEqual({type(row) for row in plan.rounds}, {list})

    def test_rounds_of(self):
        for people, games in PEOPLE:
            for many in (1, 2, 5):
                rounds = dealt_out(people, games, many)
                plan = Plan(people, games, rounds)
                for team in teams_in_order(people, games):
                    wanted = [at for at in range(many) for _ in range(rounds[at].count(team))]
                    self.assertEqual(plan.rounds_of(team), wanted)
                    self.assertEqual(len(wanted), games[len(team)])

    def test_rounds_of_no_team(self):
        plan = Plan(4, {2: 1}, ROUNDS)
        for wrong in NO_TEAMS:
            self.assert_raises("BadTeam", [wrong], plan.rounds_of, wrong)


class Equality(unittest.TestCase):
    def test_orders_and_tuples_mean_nothing(self):
        one = Plan(3, {2: 1, 1: 2}, [[(1, 2), (0,), (0,), (0, 1)], [], [(2,), (0, 2), (2,), (1,), (1,)]])
        other = Plan(3, {1: 2, 2: 1}, (((0,), (0, 1), (1, 2), (0,)), (), ((1,), (2,), (2,), (1,), (0, 2))))
        self.assertTrue(one == other)
        self.assertFalse(one != other)
        self.assertEqual(one.text(), other.text())

    def test_what_makes_plans_unlike(self):
        one = Plan(2, {1: 2}, [[(0,), (1,)], [(0,), (1,)]])
        others = [
            Plan(2, {1: 2}, [[(0,), (0,)], [(1,), (1,)]]), Plan(2, {1: 2}, [[(0,), (1,)], [(0,), (1,)], []]),
            Plan(2, {1: 2}, [[(0,), (1,), (0,), (1,)], []]), Plan(2, {1: 2}, [[(0,), (1,), (0,), (1,)]]),
            Plan(2, {1: 1}, [[(0,), (1,)], []]), Plan(2, {1: 2, 2: 1}, [[(0,), (1,)], [(0,), (1,), (0, 1)]]),
            Plan(3, {1: 2}, [[(0,), (1,)], [(0,), (1,), (2,), (2,)]]), Plan(2, {1: 2}, [[(0,)], [(0,), (1,), (1,)]]),
        ]
        for other in others:
            self.assertFalse(one == other)
            self.assertTrue(one != other)
        self.assertFalse(Plan(1, {1: 2}, [[(0,), (0,)], []]) == Plan(1, {1: 2}, [[(0,)], [(0,)]]))

    def test_the_order_of_the_rounds_counts(self):
        plan = Plan(4, {2: 1}, ROUNDS)
        self.assertFalse(plan == Plan(4, {2: 1}, ROUNDS[::-1]))

    def test_other_values(self):
        plan = Plan(2, {2: 1}, [[(0, 1)]])
        table = Table([1, 1], {2: 1}, [{(1, 1): 1}])
        for value in [None, True, 0, 1, "", plan.text(), [], plan.rounds, (), {}, object(), Plan, table]:
            self.assertFalse(plan == value)
            self.assertFalse(value == plan)
            self.assertTrue(plan != value)


class Outlines(Raising, unittest.TestCase):
    def test_all_classes_of_few_people(self):
        for people, games in PEOPLE:
            if people > 5:
                continue
            rounds = dealt_out(people, games, 4)
            plan = Plan(people, games, rounds)
            for classes in partings(people):
                numbers = [
                    Counter(tuple(len(set(team) & set(members)) for members in classes) for team in row) for row in rounds
                ]
                table = plan.outline(classes)
                self.assertIs(type(table), Table)
                self.assertEqual(table, Table([len(members) for members in classes], games, numbers))
                self.assertIsNone(table.fault())
                self.assertEqual(plan.outline(tuple(tuple(members) for members in classes)), table)

    def test_classes_of_many_people(self):
        for people, games in PEOPLE:
            plan = some_plan(people, games, 7)
            for classes in ([list(range(people))], [[person] for person in reversed(range(people))]):
                table = plan.outline(classes)
                self.assertEqual((table.fault(), table.games, len(table)), (None, games, 7))
        plan = some_plan(10, {3: 1, 1: 1}, 9)
        self.assertEqual(plan.outline([[9, 0, 4], [5], [1, 2, 3, 6, 7, 8]]).sizes, (3, 1, 6))

    def test_the_classes_stand_in_the_order_in_which_they_are_passed(self):
        plan = Plan(3, {2: 1}, [[(0, 1)], [(1, 2)], [(0, 2)]])
        self.assertEqual(plan.outline([[2], [1, 0]]).rounds, [{(0, 2): 1}, {(1, 1): 1}, {(1, 1): 1}])
        self.assertEqual(plan.outline([[1], [2], [0]]).rounds, [{(1, 0, 1): 1}, {(1, 1, 0): 1}, {(0, 1, 1): 1}])

    def test_wrong_classes(self):
        for people, wrong in WRONG_CLASSES:
            plan = some_plan(people, {1: 2}, 3)
            self.assertIs(self.assert_raises("BadClasses", [wrong], plan.outline, wrong).value, wrong)


class Renaming(Raising, unittest.TestCase):
    def test_all_names_of_few_people(self):
        for people, games in PEOPLE:
            if people > 5:
                continue
            rounds = dealt_out(people, games, 3)
            plan = Plan(people, games, rounds)
            for names in permutations(range(people)):
                wanted = [[tuple(sorted(names[person] for person in team)) for team in row] for row in rounds]
                self.assertEqual(plan.renamed(names), Plan(people, games, wanted))
                self.assertEqual(plan.renamed(list(names)), Plan(people, games, wanted))

    def test_names_that_are_not_their_own_inverse(self):
        plan = Plan(3, {2: 1}, [[(0, 1)], [(0, 2)], [(1, 2)]])
        self.assertEqual(plan.renamed([1, 2, 0]).rounds, [[(1, 2)], [(0, 1)], [(0, 2)]])

    def test_wrong_names(self):
        plan = some_plan(3, {2: 1}, 2)
        self.assert_wrong_orders("BadClasses", plan.renamed)
        for wrong in ([0, 1], [0, 1, 2, 3]):
            self.assert_raises("BadClasses", [wrong], plan.renamed, wrong)

    def assert_wrong_orders(self, error, call):
        wrong = [
            *NO_LISTS, [], (), [0, 1, 1], [1, 2, 3], [-1, 0, 1], [0, 0, 0], [0, 2, 2], [0, 1, 10**29], [False, 1, 2],
            [0, True, 2], (0, 1, True), [0.0, 1, 2], [[0], 1, 2], [(0,), (1,), (2,)], [{}, 1, 2], "012", b"\x00\x01\x02",
            {0: 0, 1: 1, 2: 2}, {0, 1, 2}, range(3), [0], [1], [0, 1, 2, 0],
            *[[value, 1, 2] for value in NO_INTEGERS],
        ]
        for order in wrong:
            self.assertIs(self.assert_raises(error, [order], call, order).value, order)

    def test_all_orders_of_few_rounds(self):
        for people, games in PEOPLE:
            for many in (1, 3, 4):
                rounds = dealt_out(people, games, many)
                plan = Plan(people, games, rounds)
                for order in permutations(range(many)):
                    wanted = Plan(people, games, [rounds[at] for at in order])
                    self.assertEqual(plan.moved(order), wanted)
                    self.assertEqual(plan.moved(list(order)), wanted)

    def test_many_rounds(self):
        plan = some_plan(10, {3: 1, 1: 1}, 130)
        order = [(7 * at + 3) % 130 for at in range(130)]
        self.assertEqual(plan.moved(order).rounds, [plan.rounds[at] for at in order])

    def test_wrong_orders(self):
        plan = some_plan(4, {2: 1}, 3)
        self.assert_wrong_orders("BadRounds", plan.moved)
        for wrong in ([0, 1], [0, 1, 2, 3]):
            self.assert_raises("BadRounds", [wrong], plan.moved, wrong)


class Adding(Raising, unittest.TestCase):
    def test_one_behind_the_other(self):
        rows = [(people, games) for people, games in PEOPLE if people < 7]
        for people, games in rows:
            for other, more in rows:
                sums = {size: games.get(size, 0) + more.get(size, 0) for size in sorted({*games, *more})}
                if other != people or len(sums) > 2 or max(sums.values()) > 3:
                    continue
                one, two = dealt_out(people, games, 3), dealt_out(people, more, 4)
                both = Plan(people, games, one) + Plan(people, more, two)
                self.assertEqual(both, Plan(people, sums, one + two))
                self.assertEqual((both.games, len(both)), (sums, 7))

    def test_games(self):
        one, two = some_plan(4, {2: 1}, 2), some_plan(4, {3: 2, 2: 2}, 2)
        self.assertEqual([(one + two).games, (two + one).games, (one + one + one).games], [{2: 3, 3: 2}] * 2 + [{2: 3}])
        self.assertEqual((some_plan(4, {4: 1}, 1) + some_plan(4, {1: 1}, 1)).games, {1: 1, 4: 1})

    def test_unlike_people(self):
        one = some_plan(4, {2: 3}, 130)
        for other in (some_plan(3, {2: 3}, 130), some_plan(5, {1: 1}, 1), some_plan(10, {3: 1}, 130)):
            self.assert_raises("UnlikePeople", [], lambda: one + other)
            self.assert_raises("UnlikePeople", [], lambda: other + one)

    def test_wrong_games(self):
        triple = some_plan(4, {2: 3}, 70)
        for other, games in [
            (some_plan(4, {2: 1}, 70), {2: 4}), (some_plan(4, {3: 1, 2: 2}, 70), {2: 5, 3: 1}),
            (some_plan(4, {3: 1, 1: 2}, 70), {1: 2, 2: 3, 3: 1}), (some_plan(4, {4: 1, 2: 3}, 70), {2: 6, 4: 1}),
        ]:
            self.assert_raises("BadGames", [games], lambda: triple + other)
            self.assert_raises("BadGames", [games], lambda: other + triple)
        for first, second in [({1: 1, 2: 1}, {3: 1, 4: 1}), ({1: 1, 2: 1}, {2: 1, 4: 1})]:
            one, other = some_plan(4, first, 2), some_plan(4, second, 2)
            games = {size: first.get(size, 0) + second.get(size, 0) for size in sorted({*first, *second})}
            self.assert_raises("BadGames", [games], lambda: other + one)

    def test_too_many_teams(self):
        one = some_plan(8, {3: 2}, 100)
        self.assert_raises("TooMany", [168], lambda: one + some_plan(8, {3: 1}, 100))
        self.assert_raises("TooMany", [140], lambda: one + some_plan(8, {2: 1}, 100))

    def test_130_teams(self):
        both = some_plan(10, {3: 1}, 1) + some_plan(10, {1: 1}, 129)
        self.assertEqual((both.games, len(both)), ({1: 1, 3: 1}, 130))

    def test_too_many_rounds(self):
        one, other = some_plan(4, {2: 1}, 70), some_plan(4, {1: 1}, 61)
        self.assert_raises("BadRounds", [one.rounds + other.rounds], lambda: one + other)
        self.assert_raises("BadRounds", [other.rounds + one.rounds], lambda: other + one)
        self.assertEqual(len(one + some_plan(4, {1: 1}, 60)), 130)

    def test_the_plans_stay(self):
        one, other = some_plan(5, {2: 1}, 3), some_plan(5, {3: 1}, 4)
        texts = [one.text(), other.text()]
        self.assertEqual(len(one + other), 7)
        self.assertEqual([one.text(), other.text()], texts)

    def test_other_values(self):
        for value in (None, 0, [], "", [[]], Table([2], {2: 1}, [{}])):
            with self.assertRaises(TypeError):
                some_plan(2, {2: 1}, 1) + value


if __name__ == "__main__":
    unittest.main()
