"""Points 55 to 58: plans that grow."""

import math
import unittest
from itertools import product

from allteams.errors import TeamError
from allteams.evens import full_plan
from allteams.growth import grown, keeps
from allteams.looks import is_full
from allteams.plans import Plan
from tests.support import NO_INTEGERS, PEOPLE, Raising, dealt_out, numbers_without_order, some_plan


def shuffled(many, order):
    numbers = list(range(many))
    return sorted(numbers, key=lambda _: next(order))


def mixed_full_plans(people, team, many):
    """Full plans in which people and rounds are shuffled without any rule."""
    order = numbers_without_order(100 * people + team)
    plan = full_plan(people, team)
    yield plan
    for _ in range(many):
        yield plan.renamed(shuffled(people, order)).moved(shuffled(len(plan), order))


def pairs():
    """All numbers of people with the team sizes that have full plans of at most 130 teams."""
    for people in range(1, 11):
        for team in range(1, min(4, people) + 1):
            if people % team == 0:
                yield people, team


class Grown(Raising, unittest.TestCase):
    def test_all_people_and_team_sizes(self):
        for people, team in pairs():
            for many in range(people, 11):
                if many % team or team > 1 and people < many < 2 * people:
                    continue
                for old in mixed_full_plans(people, team, 3):
                    text = old.text()
                    plan = grown(old, many)
                    self.assertIs(type(plan), Plan)
                    self.assertEqual((plan.people, plan.games), (many, {team: 1}))
                    self.assertEqual(len(plan), math.comb(many - 1, team - 1))
                    self.assertTrue(is_full(plan))
                    for at, teams in enumerate(old.rounds):
                        self.assertEqual([one for one in teams if one not in plan.rounds[at]], [])
                    self.assertTrue(keeps(plan, old))
                    self.assertEqual(old.text(), text)

    def test_as_many_people(self):
        for people, team in pairs():
            for old in mixed_full_plans(people, team, 3):
                self.assertEqual(grown(old, people), old)

    def test_plans_grow_again(self):
        old = full_plan(2, 2)
        middle = grown(old, 4).moved([0, 2, 1])
        plan = grown(middle, 10)
        self.assertEqual([keeps(plan, middle), keeps(plan, old), is_full(plan), len(plan)], [True, True, True, 9])

    def test_no_growth_just_below_twice_as_many(self):
        told = []
        for people, team in pairs():
            for many in range(people + 1, 11):
                if many % team == 0 and team > 1 and many < 2 * people:
                    wanted = math.comb(people - 1, team - 1) * (many - people) // team
                    there = math.comb(many - people, team)
                    self.assertGreater(wanted, there)
                    for old in mixed_full_plans(people, team, 1):
                        self.assert_raises("NoGrowth", [wanted, there], grown, old, many)
                    told.append((people, many, wanted, there))
        self.assertEqual(told, [(4, 6, 3, 1), (6, 8, 5, 1), (6, 10, 10, 6), (6, 9, 10, 1), (8, 10, 7, 1)])

    def test_plans_that_are_not_full(self):
        plans = [
            (some_plan(4, {2: 1}, 1), 2), (some_plan(4, {2: 1}, 6), 2), (some_plan(4, {3: 1}, 4), 3),
            (full_plan(4, 2, times=2), 2), (full_plan(2, 2, times=3), 2), (full_plan(1, 1, times=2), 1),
            (full_plan(4, 2) + full_plan(4, 4), 2), (full_plan(4, 4) + full_plan(4, 1), 1),
            (full_plan(6, 3) + full_plan(6, 2), 2), (some_plan(4, {1: 1, 4: 1}, 2), 1), (some_plan(3, {1: 1}, 3), 1),
            (Plan(4, {4: 1}, [[(0, 1, 2, 3)], []]), 4), (Plan(4, {2: 1}, [*full_plan(4, 2).rounds, []]), 2),
        ]
        for plan, team in plans:
            people = plan.people
            for wrong in (*NO_INTEGERS, 0, -1, people - 1, people, people + 1, 8, 10, 11):
                self.assert_raises("NotFull", [people, team], grown, plan, wrong)

    def test_wrong_people(self):
        for people, team in pairs():
            plan = full_plan(people, team)
            for wrong in (*NO_INTEGERS, people - 1, people - team, 0, -1, -people, 11, 12, 20, 10**29, -(10**29)):
                self.assert_raises("BadPeople", [wrong], grown, plan, wrong)

    def test_people_that_the_team_size_does_not_divide(self):
        for people, team in pairs():
            for many in range(people, 11):
                if many % team:
                    self.assert_raises("NotFull", [many, team], grown, full_plan(people, team), many)

    def test_equal_plans_grow_alike(self):
        for people, team, many in ((3, 3, 9), (4, 2, 10), (4, 4, 8), (2, 2, 4), (3, 1, 7)):
            one, other = full_plan(people, team), full_plan(people, team)
            self.assertEqual(grown(one, many), grown(other, many))

    def test_a_call_that_raises_changes_nothing(self):
        plan = full_plan(6, 3)
        text = plan.text()
        for wrong in (None, 5, 8, 9):
            with self.assertRaises(TeamError):
                grown(plan, wrong)
            self.assertEqual(plan.text(), text)


def kept(plan, old):
    """What keeps must return, judged by counting each team of the old people."""
    if len(plan.rounds) < len(old.rounds):
        return False
    for teams, row in zip(old.rounds, plan.rounds):
        for team in {*teams, *row}:
            if set(team) <= set(range(old.people)) and teams.count(team) != row.count(team):
                return False
    return True


class Keeps(unittest.TestCase):
    def test_all_pairs_of_plans(self):
        plans = [some_plan(people, games, many) for people, games in PEOPLE if people < 5 for many in (1, 2, 4)]
        plans += [full_plan(2, 2), full_plan(4, 2), full_plan(4, 4), full_plan(4, 2, times=2), grown(full_plan(3, 3), 6)]
        plans += [full_plan(4, 2).moved([1, 0, 2]), grown(full_plan(4, 2).moved([1, 0, 2]), 8), full_plan(3, 1)]
        found = [keeps(plan, old) for plan, old in product(plans, repeat=2)]
        self.assertEqual(found, [kept(plan, old) for plan, old in product(plans, repeat=2)])
        self.assertEqual({type(told) for told in found}, {bool})
        self.assertGreater(sum(found), len(plans))

    def test_each_plan_keeps_itself(self):
        for people, games in PEOPLE:
            plan = some_plan(people, games, 3)
            self.assertTrue(keeps(plan, Plan(people, games, dealt_out(people, games, 3))))

    def test_more_and_fewer_rounds(self):
        plan = Plan(2, {2: 1}, [[(0, 1)]])
        more = Plan(2, {2: 1}, [[(0, 1)], []])
        self.assertEqual([keeps(more, plan), keeps(plan, more)], [True, False])

    def test_teams_of_old_people_too_few_and_too_many(self):
        old = Plan(2, {2: 2}, [[(0, 1)], [(0, 1)]])
        others = [(0, 2), (0, 2), (1, 2), (1, 2)]
        for rounds, told in [
            ([[(0, 1)], [(0, 1), *others]], True), ([[(0, 1), (0, 1)], others], False),
            ([others, [(0, 1), (0, 1)]], False), ([[(0, 1), *others], [], [(0, 1)]], False),
            ([[(0, 1)], others, [(0, 1)]], False), ([[(0, 1), *others], [(0, 1)], []], True),
        ]:
            self.assertIs(keeps(Plan(3, {2: 2}, rounds), old), told)

    def test_later_rounds_may_have_any_teams(self):
        old = Plan(2, {1: 1}, [[(0,), (1,)]])
        plan = Plan(3, {1: 2}, [[(0,), (1,)], [(0,), (1,), (2,), (2,)]])
        self.assertTrue(keeps(plan, old))
        self.assertFalse(keeps(plan.moved([1, 0]), Plan(2, {1: 2}, [[(0,), (1,)], [(0,), (1,)], []])))

    def test_fewer_people_in_the_plan(self):
        self.assertFalse(keeps(Plan(1, {1: 1}, [[(0,)], []]), Plan(2, {1: 1}, [[(0,)], [(1,)]])))
        self.assertTrue(keeps(Plan(1, {1: 1}, [[(0,)]]), Plan(1, {1: 1}, [[(0,)]])))


if __name__ == "__main__":
    unittest.main()
