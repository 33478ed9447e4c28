"""Points 1 to 10 and 12 over the whole program, and what its parts promise together."""

import inspect
import math
import random
import unittest
from copy import deepcopy
from importlib import import_module

from allteams.barred import cheapest_table, fitting_plan, fitting_table
from allteams.clashes import clash, clash_kinds, needless_wishes, plan_with, range_of
from allteams.desk import Desk
from allteams.errors import Crowded
from allteams.evens import even_plan, fewest_rounds, full_plan
from allteams.growth import grown, keeps
from allteams.kinds import check_setting, team_count
from allteams.looks import is_even, is_full
from allteams.pairs import finished
from allteams.plans import Plan
from allteams.tables import Table
from allteams.taking import plan_of
from allteams.wishes import Wishes, meeting_plan
from tests.models import SMALL, Book, classes_of, head_of, some_barred, some_books
from tests.support import PEOPLE, SETTINGS, WRONG_SIZES, Raising, partings, some_plan, total
from tests.test_evens import spread
from tests.test_interface import FUNCTIONS, METHODS

HEAD = "classes old 2 young 2\ngames 2:1\nrounds 3 2:2"


def callables():
    """All functions and classes of the interface with the names of their parameters."""
    for module, functions in FUNCTIONS.items():
        for name in functions:
            function = getattr(import_module(f"allteams.{module}"), name)
            yield function, list(inspect.signature(function).parameters)
    for module, name in METHODS:
        found = getattr(import_module(f"allteams.{module}"), name)
        yield found, list(inspect.signature(found).parameters)


def called(function):
    """The same function, where a generator is asked for its first item."""
    if inspect.isgeneratorfunction(function):
        return lambda *passed: next(function(*passed))
    return function


class Settings(Raising, unittest.TestCase):
    def test_every_function_with_sizes_and_games(self):
        looked_at = []
        for function, names in callables():
            if names[:2] == ["sizes", "games"]:
                self.assert_setting_errors(function, *[None] * (len(names) - 2))
                looked_at.append(function.__name__)
        self.assertEqual(sorted(looked_at), sorted([
            "Table", "all_kinds", "are_prices", "cheapest_table", "check_setting", "due_of", "fitting_plan",
            "fitting_table", "is_crowded", "is_kind", "team_count",
        ]))

    def test_every_function_with_people_and_games(self):
        looked_at = []
        for function, names in callables():
            if names[:2] == ["people", "games"]:
                self.assert_people_errors(function, *[None] * (len(names) - 2))
                looked_at.append(function.__name__)
        self.assertEqual(sorted(looked_at), ["Plan", "even_plan"])

    def test_every_function_with_sizes_alone(self):
        looked_at = []
        for function, names in callables():
            if names[0] == "sizes" and "games" not in names:
                for wrong in WRONG_SIZES:
                    self.assert_raises("BadSizes", [wrong], called(function), wrong, *[None] * (len(names) - 1))
                looked_at.append(function.__name__)
        self.assertEqual(sorted(looked_at), ["class_of", "team_kind", "teams_of"])

    def test_right_settings(self):
        for sizes, games in SETTINGS:
            self.assertIsNone(check_setting(sizes, games))
            self.assertEqual(team_count(tuple(sizes), games), total(sum(sizes), games))


class NewEachTime(unittest.TestCase):
    def assert_new(self, call):
        """Whether what a call returns can be changed without any effect on what it returns next."""
        first, second = call(), call()
        wanted = deepcopy(first)
        self.assertEqual(second, wanted)
        self.change(first)
        self.assertEqual(second, wanted)
        self.assertEqual(call(), wanted)

    def change(self, value):
        if isinstance(value, (list, tuple)):
            for item in value:
                self.change(item)
        if isinstance(value, dict):
            for item in value.values():
                self.change(item)
        if isinstance(value, (list, dict)):
            value.clear()

    def test_books_and_desks(self):
        for text in some_books(4, 3):
            wishes, desk = Wishes(text), Desk(text)
            for at, kind in [(0, kind) for kind in Table(wishes.sizes, wishes.games, [{}]).sums()][:2]:
                desk.settle(at, kind, 1)
            for call in [
                lambda: [wishes.names, wishes.sizes, wishes.games, wishes.numbers, wishes.lines],
                lambda: wishes.barred(), lambda: wishes.barred([]), lambda: wishes.costs(), lambda: clash(wishes),
                lambda: clash_kinds(wishes), lambda: needless_wishes(wishes), lambda: desk.settled(),
                lambda: wishes.broken(some_plan(sum(wishes.sizes), {1: 1}, len(wishes.numbers))),
            ]:
                self.assert_new(call)

    def test_tables_plans_and_prices(self):
        for sizes, games, numbers in SMALL:
            self.assert_new(lambda: cheapest_table(sizes, games, numbers, {})[2])
            for made in (fitting_table(sizes, games, numbers), fitting_plan(sizes, games, numbers)):
                self.assert_new(lambda: [made.rounds, made.games])

    def test_papers_of_errors(self):
        text = HEAD + "\neach 1-1 old in 0-2"
        for call in (lambda: meeting_plan(Wishes(text)), lambda: fitting_table([2, 2], {2: 1}, [{2: 6}], [(0, (1, 1))])):
            papers = []
            for _ in range(2):
                with self.assertRaises(Crowded) as caught:
                    call()
                papers.append(list(caught.exception.paper))
                caught.exception.paper.clear()
            self.assertEqual(papers[0], papers[1])
            self.assertGreater(len(papers[0]), 0)

    def test_one_dict_for_several_rounds(self):
        row = {2: 2}
        wishes = Wishes(HEAD)
        plan = even_plan(4, {2: 1}, [row, row, row])
        row[2] = 0
        self.assertEqual([len(teams) for teams in plan.rounds], [2, 2, 2])
        numbers = wishes.numbers
        numbers[0][2] = 5
        self.assertEqual(numbers, [{2: 5}, {2: 2}, {2: 2}])


class Values(unittest.TestCase):
    def test_objects_are_not_equal_to_values_of_another_kind(self):
        objects = [Table([2], {1: 1}, [{}]), some_plan(2, {1: 1}, 1), Wishes(HEAD), Desk(HEAD), Desk(HEAD).trial()]
        for place, one in enumerate(objects):
            self.assertTrue(one == one)
            for value in [*objects[:place], *objects[place + 1 :], None, 0, 1, True, "", HEAD, [], {}, (), type(one)]:
                self.assertFalse(one == value)
                self.assertTrue(one != value)

    def test_nothing_is_returned_where_no_result_is_described(self):
        desk = Desk(HEAD + "\ncost 1 old in 0-0")
        told = [desk.add("cost 1 old in 0-0"), desk.drop(0), desk.settle(0, (1, 1), 1), desk.loosen(0, (1, 1)), desk.undo()]
        self.assertEqual((told, check_setting([2], {1: 1})), ([None] * 5, None))


class Together(unittest.TestCase):
    def test_outlines_of_even_plans_by_all_classes(self):
        for people, games in PEOPLE:
            if people > 4:
                continue
            plan = even_plan(people, games, spread(people, games, 3, people))
            for classes in partings(people):
                table = plan.outline(classes)
                self.assertIsNone(table.fault())
                again = plan_of(table)
                ordered = classes_of(table.sizes)
                self.assertEqual(again.outline(ordered), table)
                self.assertTrue(is_even(again, ordered))

    def test_even_plans_stay_even_with_other_names_and_orders(self):
        for people, games in PEOPLE:
            numbers = spread(people, games, 4, 1)
            plan = even_plan(people, games, numbers)
            other = plan.renamed(list(range(people))[::-1]).moved([3, 1, 0, 2])
            self.assertTrue(is_even(other, [list(range(people))]))
            self.assertEqual([len(row) for row in other.rounds], [sum(numbers[at].values()) for at in (3, 1, 0, 2)])

    def test_sums_of_full_plans(self):
        for people, sizes in ((4, (2, 4)), (6, (1, 3)), (8, (2, 4)), (10, (1, 2)), (9, (1, 3))):
            plan = full_plan(people, sizes[0]) + full_plan(people, sizes[1])
            self.assertEqual((is_full(plan), plan.games), (True, {size: 1 for size in sizes}))
            self.assertEqual(len(plan), sum(math.comb(people - 1, size - 1) for size in sizes))
        self.assertEqual((full_plan(6, 2) + full_plan(6, 2, times=2)).games, {2: 3})

    def test_plans_of_pairs_grow_and_are_finished(self):
        old = full_plan(4, 2)
        for people in (8, 10):
            plan = grown(old, people)
            within = [[pair for pair in row if pair[1] < 6] for row in plan.rounds]
            again = finished(6, people, within)
            self.assertEqual((is_full(again), keeps(again, old), len(again)), (True, True, people - 1))
            self.assertEqual([[pair for pair in row if pair[1] < 6] for row in again.rounds], within)

    def test_fewest_rounds_come_to_even_plans(self):
        for people, games in PEOPLE:
            for size in games:
                plan = fewest_rounds(people, size)
                numbers = [{size: len(row)} for row in plan.rounds]
                self.assertTrue(is_even(plan, [list(range(people))]))
                self.assertEqual(even_plan(people, {size: 1}, numbers).outline([list(range(people))]).rounds,
                                 plan.outline([list(range(people))]).rounds)

    def test_a_plan_meets_a_book_exactly_if_its_outline_fits(self):
        for sizes, games, numbers in SMALL:
            chance = random.Random(str(sizes))
            plan = fitting_plan(sizes, games, numbers)
            self.assertEqual(plan.people, sum(sizes))
            for text in (head_of(sizes, games, numbers), head_of(sizes, games, numbers) + "\neach 0-1 a in 0-0"):
                wishes, table = Wishes(text), plan.outline(classes_of(sizes))
                shut = [entry for entry in wishes.barred() if table.number(*entry) > 0]
                self.assertEqual(wishes.broken(plan) == [], shut == [])
                self.assertEqual(Book(text).barred(), wishes.barred())
            shut = some_barred(sizes, games, len(numbers), chance, 0.2)
            try:
                self.assertIsNone(fitting_plan(sizes, games, numbers, shut).outline(classes_of(sizes)).fault())
            except Crowded as error:
                self.assertGreater(len(error.paper), 0)

    def test_each_number_of_a_range_is_that_of_a_plan(self):
        wishes = Wishes("classes a 4 b 2\ngames 3:1\nrounds 5 3:4\neach 1-3 a in 0-1")
        least, greatest = range_of(wishes, 0, (2, 1))
        self.assertLess(least, greatest)
        for number in range(least, greatest + 1):
            plan = plan_with(wishes, 0, (2, 1), number)
            self.assertEqual((type(plan), wishes.broken(plan)), (Plan, []))
            self.assertEqual(plan.outline(classes_of([4, 2])).number(0, (2, 1)), number)


if __name__ == "__main__":
    unittest.main()
