"""Points 59 to 62: rounds of pairs that are fixed."""

import unittest
from copy import deepcopy
from itertools import combinations, product

from allteams.errors import TeamError
from allteams.evens import full_plan
from allteams.looks import is_full
from allteams.pairs import finished, least_pairs
from allteams.plans import Plan
from tests.support import NO_INTEGERS, NO_LISTS, NO_TUPLES, Raising, numbers_without_order

WRONG_PEOPLE = [*NO_INTEGERS, 0, 1, 3, 5, 7, 9, 11, 12, -2, 10**29, -(10**29)]


def within(rounds, old):
    return [[pair for pair in row if pair[1] < old] for row in rounds]


def fixed_pairs(old, people, many):
    """Rounds of fixed pairs that can be finished, in no special order."""
    order = numbers_without_order(100 * people + old)
    for _ in range(many):
        names = sorted(range(people), key=lambda _: next(order))
        rounds = sorted(full_plan(people, 2).renamed(names).rounds, key=lambda _: next(order))
        yield [sorted(row, key=lambda _: next(order)) for row in within(rounds, old)]


def dealt_pairs(old, people):
    """All ways to deal the pairs of the old people to the rounds, right or wrong."""
    found = list(combinations(range(old), 2))
    for places in product(range(people - 1), repeat=len(found)):
        yield [[pair for pair, at in zip(found, places) if at == place] for place in range(people - 1)]


def with_lengths(rounds, lengths):
    """Rounds of the same pairs, some of which are moved until each round has as many as it must have at least."""
    rounds = deepcopy(rounds)
    for row, length in zip(rounds, lengths):
        while len(row) < length:
            there = {person for pair in row for person in pair}
            givers = [other for other, most in zip(rounds, lengths) if len(other) > most]
            giver, pair = next((other, pair) for other in givers for pair in other if not there & set(pair))
            giver.remove(pair)
            row.append(pair)
    return rounds


def outcome(old, people, rounds):
    """What finished must raise, with its values, or None; the rounds are lists of teams of two old people."""
    for at, row in enumerate(rounds):
        there = [person for pair in row for person in pair]
        before = [pair for earlier in rounds[:at] for pair in earlier]
        if len(there) > len(set(there)) or set(row) & set(before):
            return "BadPairs", [at]
    for pair in combinations(range(old), 2):
        if not any(pair in row for row in rounds):
            return "WrongTimes", [pair, 0]
    for at, row in enumerate(rounds):
        # The old people who are in no pair are more than the new people that they must play with.
        if old - 2 * len(row) > people - old:
            return "ShortRound", [at, len(row), old - people // 2]
    return None


class Finished(Raising, unittest.TestCase):
    def assert_finished(self, old, people, rounds):
        """Whether finished returns what point 59 promises, judged from the teams themselves."""
        before = deepcopy(rounds)
        plan = finished(old, people, rounds)
        self.assertEqual(rounds, before)
        self.assertIs(type(plan), Plan)
        self.assertEqual((plan.people, plan.games, len(plan)), (people, {2: 1}, people - 1))
        self.assertTrue(is_full(plan))
        self.assertEqual(within(plan.rounds, old), [sorted(row) for row in rounds])

    def test_all_numbers_of_people(self):
        for people in (2, 4, 6, 8, 10):
            for old in range(people + 1):
                for rounds in fixed_pairs(old, people, 4):
                    self.assert_finished(old, people, rounds)

    def test_all_ways_to_deal_few_pairs(self):
        told = []
        for people, old in ((2, 0), (2, 1), (2, 2), (4, 0), (4, 1), (4, 2), (4, 3), (4, 4), (6, 2), (6, 3), (6, 4), (8, 3)):
            for rounds in dealt_pairs(old, people):
                wrong = outcome(old, people, rounds)
                told.append(wrong and wrong[0])
                if wrong is None:
                    self.assert_finished(old, people, rounds)
                else:
                    self.assert_raises(*wrong, finished, old, people, rounds)
        self.assertEqual(set(told), {None, "BadPairs", "ShortRound"})

    def test_old_people_up_to_half_can_always_be_finished(self):
        for people in (2, 4, 6, 8, 10):
            for old in range(people // 2 + 1):
                # Each pair alone in a round, and as many pairs as can be in one round.
                lone = [[pair] for pair in combinations(range(old), 2)][: people - 1]
                if len(lone) == old * (old - 1) // 2:
                    self.assert_finished(old, people, lone + [[]] * (people - 1 - len(lone)))
                if old % 2 == 0 and old > 0:
                    dense = full_plan(old, 2).rounds
                    self.assert_finished(old, people, [[]] * (people - 1 - len(dense)) + dense)

    def test_rounds_with_just_the_least_pairs_and_one_fewer(self):
        for people, old in ((6, 4), (8, 5), (8, 6), (10, 6), (10, 7), (10, 8)):
            least = old - people // 2
            dense = within(full_plan(old + old % 2, 2).rounds, old)
            dense += [[] for _ in range(people - 1 - len(dense))]
            self.assert_finished(old, people, with_lengths(dense, [least] * (people - 1)))
            short = with_lengths(dense, [least] * (people - 2) + [least - 1])
            for at in range(people - 1):
                rounds = short[:at] + short[-1:] + short[at:-1]
                self.assert_raises("ShortRound", [at, least - 1, least], finished, old, people, rounds)

    def test_the_first_short_round_is_told(self):
        full = [[(0, 1), (2, 3)], [(0, 2), (1, 3)], [(0, 3), (1, 2)]]
        self.assert_raises("ShortRound", [0, 0, 1], finished, 4, 6, [[], *full, []])
        self.assert_raises("ShortRound", [4, 0, 1], finished, 4, 6, [full[0], full[1], *[[pair] for pair in full[2]], []])
        self.assert_finished(4, 6, [full[0], [(0, 2)], [(1, 3)], [(0, 3)], [(1, 2)]])
        self.assert_finished(4, 8, [*full, [], [], [], []])

    def test_wrong_people(self):
        for wrong in WRONG_PEOPLE:
            for old in (0, 1, 2, None, -1, 10**29):
                for rounds in ([[]], None, [[(0, 0)]]):
                    self.assert_raises("BadPeople", [wrong], finished, old, wrong, rounds)
                self.assert_raises("BadPeople", [wrong], least_pairs, old, wrong)
        for people in (2, 4, 6, 8, 10):
            for wrong in (*NO_INTEGERS, -1, people + 1, people + 2, 11, 10**29, -(10**29)):
                for rounds in ([[]] * (people - 1), None, [[(0, 0)]]):
                    self.assert_raises("BadPeople", [wrong], finished, wrong, people, rounds)
                self.assert_raises("BadPeople", [wrong], least_pairs, wrong, people)

    def test_wrong_rounds(self):
        wrongs = [*NO_LISTS, [], (), [[]], [[]] * 2, [[]] * 4, [[], [], [], [(0, 0)]], [[(0, 0)], []]]
        wrongs += [[item, [], []] for item in NO_LISTS] + [([(0, 0)], [], item) for item in NO_LISTS]
        for wrong in wrongs:
            for old in (0, 2, 4):
                self.assertIs(self.assert_raises("BadRounds", [wrong], finished, old, 4, wrong).value, wrong)

    def test_what_are_no_pairs(self):
        values = [
            *NO_TUPLES, (), (0,), (0, 1, 2), (0, 0), (1, 0), (2, 1), (0, 3), (2, 3), (-1, 0), (0, 10**29), (False, 1),
            (0, True), (0, 1.0), (None, 1), ("0", "1"), ((0,), (1,)), ([0], [1]), [0, 2], {0: 1, 2: 1},
        ]
        for value in values:
            self.assert_raises("BadPairs", [0], finished, 3, 4, [[value], [(0, 1)], [(1, 2)]])
            self.assert_raises("BadPairs", [1], finished, 3, 4, ([(0, 1)], (value, None), [(0, 1)]))
            self.assert_raises("BadPairs", [2], finished, 3, 4, [[(0, 1)], [], [(1, 2), value]])
        self.assert_raises("BadPairs", [1], finished, 0, 4, [[], [(0, 1)], []])
        self.assert_raises("BadPairs", [0], finished, 1, 2, [[(0, 1)]])

    def test_people_and_pairs_that_stand_twice(self):
        self.assert_raises("BadPairs", [1], finished, 4, 4, [[(0, 1)], [(0, 2), (2, 3)], [(0, 1)]])
        self.assert_raises("BadPairs", [1], finished, 4, 4, [[(0, 1), (2, 3)], [(0, 2), (0, 2)], []])
        self.assert_raises("BadPairs", [2], finished, 4, 4, [[(0, 1), (2, 3)], [(0, 2)], [(1, 3), (0, 2)]])
        self.assert_raises("BadPairs", [1], finished, 4, 4, [[(0, 1)], [(0, 1)], [(0, 1)]])
        self.assert_raises("BadPairs", [0], finished, 4, 4, [[(0, 1), (1, 2)], [5], []])

    def test_missing_pairs_come_behind_wrong_ones_and_before_short_rounds(self):
        self.assert_raises("BadPairs", [2], finished, 4, 4, [[], [], [(0, 0)]])
        self.assert_raises("WrongTimes", [(0, 1), 0], finished, 4, 4, [[], [], []])
        self.assert_raises("WrongTimes", [(0, 3), 0], finished, 4, 4, [[(0, 1)], [(0, 2), (1, 3)], [(1, 2)]])
        self.assert_raises("WrongTimes", [(1, 2), 0], finished, 4, 4, [[(0, 1)], [(0, 2)], [(0, 3)]])
        self.assert_raises("WrongTimes", [(0, 1), 0], finished, 2, 6, [[]] * 5)
        for people in (4, 6, 8, 10):
            for old in range(2, people + 1):
                rounds = next(fixed_pairs(old, people, 1))
                for pair in combinations(range(old), 2):
                    less = [[one for one in row if one != pair] for row in rounds]
                    self.assert_raises("WrongTimes", [pair, 0], finished, old, people, less)

    def test_all_people_fixed(self):
        for people in (2, 4, 6, 8, 10):
            plan = full_plan(people, 2)
            self.assertEqual(finished(people, people, plan.rounds), plan)

    def test_tuples_and_orders_mean_nothing(self):
        for people, old in ((4, 3), (6, 4), (8, 5), (10, 7)):
            rounds = next(fixed_pairs(old, people, 1))
            again = tuple(tuple(reversed(row)) for row in rounds)
            self.assertEqual(finished(old, people, rounds), finished(old, people, again))

    def test_a_call_that_raises_changes_nothing(self):
        for rounds in ([[(0, 1)], [(0, 1)], []], [[], [], []], [[(0, 1), (2, 3)], [(0, 2), (1, 3)], [(0, 3)]]):
            before = deepcopy(rounds)
            with self.assertRaises(TeamError):
                finished(4, 4, rounds)
            self.assertEqual(rounds, before)


class LeastPairs(unittest.TestCase):
    def test_all_numbers(self):
        for people in (2, 4, 6, 8, 10):
            for old in range(people + 1):
                wanted = next(least for least in range(9) if old - 2 * least <= people - old)
                self.assertEqual(least_pairs(old, people), wanted)
        self.assertEqual([least_pairs(0, 2), least_pairs(2, 2), least_pairs(10, 10), least_pairs(5, 10)], [0, 1, 5, 0])


if __name__ == "__main__":
    unittest.main()
