"""Points 34 to 38: looks at plans."""

import math
import unittest
from copy import deepcopy
from itertools import permutations, product

from allteams.errors import TeamError
from allteams.looks import is_even, is_full, meetings, plays, rests, uneven
from allteams.plans import Plan
from tests.support import (
    NO_INTEGERS, PEOPLE, WRONG_CLASSES, Raising, dealt_out, numbers_without_order, partings, some_plan, teams_in_order,
)


def some_plans():
    """Plans of all these people, and their rounds as they were passed."""
    for people, games in PEOPLE:
        for many in (1, 2, 3, 7):
            rounds = dealt_out(people, games, many)
            yield Plan(people, games, rounds), rounds


def mixed_plan(people, games, many, first):
    """A plan whose teams are dealt to the rounds without any rule."""
    numbers = numbers_without_order(first)
    rounds = [[] for _ in range(many)]
    for team in teams_in_order(people, games):
        for _ in range(games[len(team)]):
            rounds[next(numbers) % many].append(team)
    return Plan(people, games, rounds)


def plays_of(plan, at, person):
    return sum(person in team for team in plan.rounds[at])


def uneven_of(plan, classes):
    """What uneven must return, found from all pairs of people of each class."""
    for at in range(len(plan)):
        for members in classes:
            counts = {person: plays_of(plan, at, person) for person in members}
            if any(counts[one] - counts[other] > 1 for one, other in permutations(members, 2)):
                order = sorted(members)
                fewer = next(one for one in order if all(counts[one] <= counts[other] for other in order))
                more = next(one for one in order if all(counts[one] >= counts[other] for other in order))
                return at, fewer, more
    return None


class Plays(unittest.TestCase):
    def test_plays(self):
        for plan, rounds in some_plans():
            wanted = [[sum(team.count(person) for team in row) for person in range(plan.people)] for row in rounds]
            self.assertEqual(plays(plan), wanted)

    def test_each_person_plays_as_often_as_point_38_tells(self):
        for plan, rounds in some_plans():
            due = sum(times * math.comb(plan.people - 1, size - 1) for size, times in plan.games.items())
            self.assertEqual([sum(counts) for counts in zip(*plays(plan))], [due] * plan.people)

    def test_what_is_returned_is_new(self):
        plan = Plan(3, {2: 1}, [[(0, 1)], [(0, 2)], [(1, 2)]])
        plays(plan)[0][0] = 9
        plays(plan).clear()
        rests(plan, 0).append(9)
        meetings(plan, 0, 1).append(9)
        self.assertEqual([plays(plan)[0], rests(plan, 0), meetings(plan, 0, 1)], [[1, 1, 0], [2], [0]])
        told = plays(Plan(2, {1: 1}, [[], [(0,), (1,)], []]))
        told[0][0] = 5
        self.assertEqual(told, [[5, 0], [1, 1], [0, 0]])


class Evenness(Raising, unittest.TestCase):
    def test_all_classes_of_few_people(self):
        found = {True: 0, False: 0}
        for people, games in PEOPLE:
            if people > 5:
                continue
            for many, first in product((1, 2, 3, 6), range(3)):
                plan = mixed_plan(people, games, many, 100 * many + first)
                for classes in partings(people):
                    told = uneven(plan, classes)
                    self.assertEqual(told, uneven_of(plan, classes))
                    self.assertIs(is_even(plan, classes), told is None)
                    self.assertEqual(uneven(plan, tuple(tuple(members) for members in classes)), told)
                    self.assertEqual(uneven(plan, classes[::-1]), uneven_of(plan, classes[::-1]))
                    found[told is None] += 1
        self.assertGreater(min(found.values()), 300)

    def test_many_people(self):
        for people, games in PEOPLE:
            for many in (2, 9):
                plan = mixed_plan(people, games, many, people + many)
                for classes in ([list(range(people))], [[p] for p in range(people)], [list(range(people))[::-1]]):
                    self.assertEqual(uneven(plan, classes), uneven_of(plan, classes))

    def test_numbers_that_differ_by_one_are_even(self):
        plan = Plan(3, {1: 1, 2: 1}, [[(0, 1)], [(0, 2), (1, 2)], [(0,), (1,), (2,)]])
        self.assertEqual((uneven(plan, [[0, 1, 2]]), is_even(plan, [[0, 1, 2]])), (None, True))
        plan = Plan(3, {1: 1, 2: 1}, [[(0, 1), (0, 2)], [(1, 2)], [(0,), (1,), (2,)]])
        self.assertEqual((uneven(plan, [[0, 1, 2]]), is_even(plan, [[0, 1, 2]])), (None, True))
        plan = Plan(3, {1: 1, 2: 1}, [[(0, 1), (0,)], [(1, 2), (0, 2), (1,), (2,)]])
        self.assertEqual((uneven(plan, [[0, 1, 2]]), is_even(plan, [[0, 1, 2]])), ((0, 2, 0), False))

    def test_first_round_and_then_first_class(self):
        rounds = [[(0,), (1,)], [(2,), (2,), (4,), (4,)], [(0,), (1,), (3,), (3,), (5,), (5,)]]
        plan = Plan(6, {1: 2}, rounds)
        self.assertEqual(uneven(plan, [[0, 1], [2, 3], [4, 5]]), (1, 3, 2))
        self.assertEqual(uneven(plan, [[4, 5], [0, 1], [2, 3]]), (1, 5, 4))
        self.assertEqual(uneven(plan, [[0, 1], [5, 4, 3, 2]]), (1, 3, 2))
        self.assertEqual(uneven(plan, [[5, 4], [3, 2, 1, 0]]), (1, 5, 4))
        self.assertEqual(uneven(plan, [[3, 2, 1, 0], [5, 4]]), (1, 0, 2))
        self.assertEqual(uneven(plan, [[2, 4], [3, 5], [1, 0]]), None)
        self.assertEqual(uneven(plan, [[2], [3, 0, 1], [4], [5]]), None)
        self.assertEqual(uneven(plan, [[4, 1], [3, 2], [0], [5]]), (1, 1, 4))
        self.assertEqual(uneven(plan, [[2, 4, 3, 5], [0, 1]]), (1, 3, 2))

    def test_wrong_classes(self):
        for people, wrong in WRONG_CLASSES:
            plan = some_plan(people, {1: 2}, 3)
            self.assertIs(self.assert_raises("BadClasses", [wrong], uneven, plan, wrong).value, wrong)
            self.assertIs(self.assert_raises("BadClasses", [wrong], is_even, plan, wrong).value, wrong)

    def test_arguments_stay(self):
        plan, classes = some_plan(4, {2: 1}, 2), [[3, 1], [0], [2]]
        text, before = plan.text(), deepcopy(classes)
        uneven(plan, classes)
        is_even(plan, classes)
        with self.assertRaises(TeamError):
            uneven(plan, [[0]])
        self.assertEqual((plan.text(), classes), (text, before))


class Fullness(unittest.TestCase):
    def test_pairs_of_four(self):
        self.assertIs(is_full(Plan(4, {2: 1}, [[(0, 1), (2, 3)], [(0, 2), (1, 3)], [(0, 3), (1, 2)]])), True)
        self.assertIs(is_full(Plan(4, {2: 1}, [[(0, 1), (2, 3)], [(0, 2), (0, 3)], [(1, 3), (1, 2)]])), False)
        self.assertIs(is_full(Plan(4, {2: 1}, [[(0, 1), (2, 3)], [(0, 2), (1, 3)], [(0, 3), (1, 2)], []])), False)
        self.assertIs(is_full(Plan(4, {2: 1}, [[(0, 1), (2, 3), (0, 2), (1, 3)], [(0, 3), (1, 2)]])), False)

    def test_one_person_too_many_or_too_few(self):
        self.assertIs(is_full(Plan(3, {1: 1, 2: 1}, [[(0,), (1, 2)], [(1,), (0, 2)], [(2,), (0, 1)]])), True)
        self.assertIs(is_full(Plan(3, {1: 1, 2: 1}, [[(1,), (1, 2)], [(0,), (0, 2)], [(2,), (0, 1)]])), False)
        self.assertIs(is_full(Plan(3, {2: 1}, [[(1, 2)], [(0, 2)], [(0, 1)]])), False)
        self.assertIs(is_full(Plan(2, {1: 3}, [[(0,), (1,)], [(0,), (1,)], [(0,), (1,)]])), True)
        self.assertIs(is_full(Plan(2, {1: 2}, [[(0,), (0,)], [(1,), (1,)]])), False)
        self.assertIs(is_full(Plan(4, {4: 3}, [[(0, 1, 2, 3)]] * 3)), True)
        self.assertIs(is_full(Plan(4, {4: 3}, [[(0, 1, 2, 3)] * 2, [(0, 1, 2, 3)]])), False)

    def test_a_plan_is_full_if_all_play_once(self):
        for plan, rounds in some_plans():
            wanted = all(plays_of(plan, at, person) == 1 for at in range(len(plan)) for person in range(plan.people))
            self.assertIs(is_full(plan), wanted)


class Meetings(Raising, unittest.TestCase):
    def test_meetings(self):
        for plan, rounds in some_plans():
            due = sum(times * math.comb(plan.people - 2, size - 2) for size, times in plan.games.items() if size > 1)
            for one, other in permutations(range(plan.people), 2):
                wanted = [at for at, row in enumerate(rounds) for team in row if {one, other} <= set(team)]
                self.assertEqual(meetings(plan, one, other), wanted)
                self.assertEqual(len(wanted), due)

    def test_a_round_stands_as_often_as_there_are_teams(self):
        plan = Plan(3, {2: 2, 3: 1}, [[(0, 1), (0, 1), (0, 1, 2)], [(0, 2), (1, 2), (1, 2)], [(0, 2)]])
        self.assertEqual([meetings(plan, 1, 0), meetings(plan, 2, 0)], [[0, 0, 0], [0, 1, 2]])

    def test_wrong_people(self):
        plan = some_plan(4, {2: 1}, 3)
        for wrong in [*NO_INTEGERS, -1, 4, 5, 10**29, -(10**29)]:
            for other in (0, 3, wrong, None, 9):
                self.assert_raises("BadPerson", [wrong], meetings, plan, wrong, other)
            for one in (0, 3):
                self.assert_raises("BadPerson", [wrong], meetings, plan, one, wrong)
            self.assert_raises("BadPerson", [wrong], rests, plan, wrong)
        for person in range(4):
            self.assert_raises("BadPerson", [person], meetings, plan, person, person)
        self.assert_raises("BadPerson", [1], meetings, some_plan(1, {1: 1}, 1), 0, 1)
        self.assert_raises("BadPerson", [1], rests, some_plan(1, {1: 1}, 1), 1)

    def test_rests(self):
        for plan, rounds in some_plans():
            for person in range(plan.people):
                wanted = [at for at, row in enumerate(rounds) if not any(person in team for team in row)]
                self.assertEqual(rests(plan, person), wanted)
        plan = Plan(2, {1: 2}, [[], [(0,), (0,)], [], [(1,)], [(1,)], []])
        self.assertEqual([rests(plan, 0), rests(plan, 1)], [[0, 2, 3, 4, 5], [0, 1, 2, 5]])


if __name__ == "__main__":
    unittest.main()
