"""Points 73 to 75: what books of wishes bar and cost, and the cheapest plans that meet them."""

import random
import unittest
from itertools import product

from allteams.clashes import clash
from allteams.errors import Crowded
from allteams.looks import is_even
from allteams.plans import Plan
from allteams.wishes import Wishes, meeting_plan
from tests.models import (
    LARGE, Book, all_lists, classes_of, cost_of, head_of, some_books, some_charge, some_numbers, some_wish,
)
from tests.support import NO_INTEGERS, PEOPLE, Raising, some_plan

HEAD = "classes old 2 young 2\ngames 2:1\nrounds 3 2:2"
MIXED = "classes a 2 b 1\ngames 1:2 2:1\nrounds 2 1:3 2:1\nrounds 1 2:1"


def large_books(rounds, wishes, charges):
    """Texts of books of more people."""
    for (sizes, games), many, turn in product(LARGE, rounds, range(3)):
        chance = random.Random(f"{sizes} {games} {many} {turn}")
        head = head_of(sizes, games, some_numbers(sizes, games, many, chance))
        book = Book(head)
        lines = [some_wish(book, chance) for _ in range(turn * wishes)]
        lines += [some_charge(book, chance) for _ in range(charges)]
        chance.shuffle(lines)
        yield "\n".join([head, *lines])


def some_plans(wishes):
    """Plans of as many people and rounds as a book has, most of them with other games."""
    people = sum(wishes.sizes)
    for games in [wishes.games, *(games for many, games in PEOPLE if many == people)]:
        yield some_plan(people, games, len(wishes.numbers))


class Barred(Raising, unittest.TestCase):
    def test_all_books(self):
        for text in [*some_books(25), *large_books((1, 6, 20), 2, 0)]:
            found = Wishes(text).barred()
            self.assertEqual(found, Book(text).barred())
            self.assertEqual(found, sorted(set(found)))

    def test_wishes_that_are_chosen(self):
        for text in some_books(12):
            wishes, book = Wishes(text), Book(text)
            self.assertEqual(wishes.barred(None), book.barred())
            for which in all_lists(range(len(wishes))):
                wanted = book.barred(which)
                for passed in (which, tuple(which), which[::-1], which + which):
                    self.assertEqual(wishes.barred(passed), wanted)
                self.assertEqual(wishes.barred(which=which), wanted)

    def test_no_wishes(self):
        for text in (HEAD, MIXED, HEAD + "\ncost 1 old in 0-2"):
            wishes = Wishes(text)
            self.assertEqual([wishes.barred(), wishes.barred([]), wishes.barred(())], [[], [], []])

    def test_numbers_of_no_wish(self):
        wishes = Wishes(HEAD + "\neach 0-1 old in 0-0\ncost 1 old in 0-0\neach 0-1 young in 1-1")
        for wrong in [*NO_INTEGERS, -1, 2, 3, 10**29, -(10**29)]:
            for which in ([wrong], (0, wrong), [1, 1, wrong, 9, None]):
                self.assert_raises("BadNumber", [wrong], wishes.barred, which)
        self.assert_raises("BadNumber", [0], Wishes(HEAD).barred, [0])

    def test_entries_are_ordered_as_tuples(self):
        wishes = Wishes(MIXED + "\neach 1-1 b in 2-2\neach 1-1 b in 0-0")
        kinds = [(1, 0), (2, 0)]
        self.assertEqual(wishes.barred(), [(0, kind) for kind in kinds] + [(2, kind) for kind in kinds])
        wishes = Wishes(MIXED + "\neach 0-0 a in 1-1")
        self.assertEqual(wishes.barred(), [(1, (1, 0)), (1, (1, 1)), (1, (2, 0))])

    def test_edges(self):
        for line, kinds in [
            ("each 0-9 a in 0-0", []), ("each 0-0 a in 0-0", [(1, 0), (1, 1), (2, 0)]),
            ("each 2-9 a in 0-0", [(0, 1), (1, 0), (1, 1)]), ("each 9-9 b in 0-0 of 1", [(0, 1), (1, 0)]),
            ("each 1-1 a in 0-0 of 2", [(2, 0)]),
            ("each 1-2 a in 0-0", [(0, 1)]), ("each 0-1 a in 0-0", [(2, 0)]), ("each 1-9 b in 0-0 of 2", [(2, 0)]),
        ]:
            self.assertEqual(Wishes(f"{MIXED}\n{line}").barred(), [(0, kind) for kind in kinds])


class Costs(unittest.TestCase):
    def test_all_books(self):
        for text in [*some_books(25, 5), *large_books((1, 6, 20), 1, 9)]:
            self.assertEqual(Wishes(text).costs(), Book(text).costs())

    def test_costs_that_come_to_0_are_left_out(self):
        lines = ["cost 2 a in 0-1", "cost -2 a in 1-2", "cost 0 b in 0-2", "cost 4 b in 2-2", "cost -2 b in 2-2 of 2"]
        wishes = Wishes("\n".join([MIXED, *lines]))
        told = {(0, (1, 0)): 2, (0, (1, 1)): 2, (0, (2, 0)): 4, (2, (0, 1)): 4, (2, (1, 0)): -2, (2, (2, 0)): -4}
        self.assertEqual(wishes.costs(), told)

    def test_the_same_line_twice(self):
        wishes = Wishes(MIXED + "\ncost -99 b in 0-0 of 1" * 2)
        self.assertEqual(wishes.costs(), {(0, (0, 1)): -198})


class Looking(Raising, unittest.TestCase):
    def test_broken_and_costs_of_plans(self):
        broken = 0
        for text in [*some_books(10, 3), *large_books((1, 6), 3, 3)]:
            wishes, book = Wishes(text), Book(text)
            for plan in some_plans(wishes):
                teams = [(at, team) for at, row in enumerate(plan.rounds) for team in row]
                wanted = [
                    number for number, wish in enumerate(book.wishes)
                    if any(book.breaks(wish, at, team) for at, team in teams)
                ]
                self.assertEqual(wishes.broken(plan), wanted)
                self.assertEqual(wishes.cost_of(plan), sum(book.costs_of(at, team) for at, team in teams))
                broken += len(wanted)
        self.assertGreater(broken, 100)

    def test_team_sizes_that_the_book_does_not_have(self):
        lines = ["each 0-1 a in 0-0", "each 0-1 a in 0-0 of 2", "cost 3 b in 0-0"]
        wishes = Wishes("\n".join(["classes a 2 b 2", "games 2:1", "rounds 1 2:6", *lines]))
        plan = Plan(4, {3: 1}, [[(0, 1, 2), (0, 1, 3), (0, 2, 3), (1, 2, 3)]])
        self.assertEqual([wishes.broken(plan), wishes.cost_of(plan)], [[0], 18])

    def test_wrong_plans(self):
        wishes = Wishes(HEAD + "\neach 0-1 old in 0-0\ncost 1 old in 0-0")
        for call in (wishes.broken, wishes.cost_of):
            for people, rounds in ((3, 3), (5, 3), (3, 2), (1, 4), (10, 130)):
                self.assert_raises("BadClasses", [people], call, some_plan(people, {1: 1}, rounds))
            for rounds in (1, 2, 4, 130):
                self.assert_raises("BadRounds", [rounds], call, some_plan(4, {2: 1}, rounds))


class Meeting(Raising, unittest.TestCase):
    def assert_meeting(self, text):
        """Whether meeting_plan keeps point 75, judged from the teams; the cost is returned, or None."""
        wishes, book = Wishes(text), Book(text)
        try:
            cost, plan = meeting_plan(wishes)
        except Crowded as error:
            self.assertEqual(error.paper, clash(wishes))
            self.assertGreater(len(error.paper), 0)
            return None
        self.assertEqual([type(cost), type(plan)], [int, Plan])
        self.assertEqual((plan.people, plan.games, len(plan)), (sum(book.sizes), book.games, len(book.numbers)))
        for row, teams in zip(book.numbers, plan.rounds):
            for size in book.games:
                self.assertEqual(sum(len(team) == size for team in teams), row.get(size, 0))
        teams = [(at, team) for at, row in enumerate(plan.rounds) for team in row]
        self.assertFalse(any(book.breaks(wish, at, team) for wish in book.wishes for at, team in teams))
        self.assertEqual(sum(book.costs_of(at, team) for at, team in teams), cost)
        self.assertEqual((wishes.broken(plan), wishes.cost_of(plan)), ([], cost))
        self.assertTrue(is_even(plan, classes_of(book.sizes)))
        self.assertEqual(meeting_plan(Wishes(text)), (cost, plan))
        return cost

    def test_few_people(self):
        told = []
        for text in some_books(25, 5):
            book = Book(text)
            found = self.assert_meeting(text)
            self.assertEqual(found, min([cost_of(rounds, book.costs()) for rounds in book.fitting()], default=None))
            told.append(found)
        self.assertGreater(min(told.count(None), len(told) - told.count(None)), 50)

    def test_many_people(self):
        told = []
        for text in large_books((1, 5, 12), 2, 10):
            if len(Book(text).entries()) <= 80 * len(Book(text).numbers):
                told.append(self.assert_meeting(text))
        self.assertGreater(len([cost for cost in told if cost is not None]), 10)

    def test_entries_may_cost_more_than_a_thousand(self):
        lines = ["cost 99 old in 0-0"] * 30 + ["cost -99 young in 0-0 of 2"] * 30
        self.assertEqual(max(Wishes("\n".join([HEAD, *lines])).costs().values()), 5940)
        # In round 0 a team of two young people and a team of both kinds play.
        self.assertEqual(self.assert_meeting("\n".join([HEAD, *lines])), 2970 - 3 * 2970)

    def test_plans_of_no_book(self):
        self.assert_raises("Crowded", [[1]], meeting_plan, Wishes(HEAD + "\neach 0-2 young in 0-0\neach 1-1 old in 0-2"))
        text = "classes a 3\ngames 2:1\nrounds 3 2:1\neach 0-1 a in 0-0\ncost 1 a in 0-0\neach 0-1 a in 1-1"
        self.assert_raises("Crowded", [[0]], meeting_plan, Wishes(text))

    def test_books_stay(self):
        for text in some_books(3, 3):
            wishes = Wishes(text)
            before = (wishes.barred(), wishes.costs(), wishes.lines, wishes.numbers, wishes.games)
            try:
                meeting_plan(wishes)
            except Crowded as error:
                error.paper.clear()
            self.assertEqual((wishes.barred(), wishes.costs(), wishes.lines, wishes.numbers, wishes.games), before)


if __name__ == "__main__":
    unittest.main()
