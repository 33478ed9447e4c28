"""Points 76 to 79: clashes, ranges and needless wishes."""

import random
import unittest
from itertools import product

from allteams.clashes import clash, clash_kinds, needless_wishes, plan_with, range_of
from allteams.looks import is_even
from allteams.plans import Plan
from allteams.wishes import Wishes
from tests.models import (
    SMALL, Book, all_lists, classes_of, crowded, head_of, number_in, some_books, some_fit, some_numbers, some_wish,
)
from tests.support import NO_INTEGERS, Raising, kinds_in_order
from tests.test_barred import NO_KINDS

HEAD = "classes old 2 young 2\ngames 2:1\nrounds 3 2:2"


def clash_of(book):
    """The clash of a book, found as point 76 tells."""
    everything = list(range(len(book.wishes)))
    if book.can_meet(everything):
        return None
    left = everything
    for number in reversed(everything):
        rest = [other for other in left if other != number]
        if not book.can_meet(rest):
            left = rest
    return left


def large_books(many, rounds):
    """Texts of books of more people with many wishes."""
    for place, (sizes, games) in enumerate((([4, 3, 2], {2: 2, 1: 1}), ([1] * 10, {3: 1, 1: 1}), ([5, 5], {3: 1}))):
        for turn in range(many):
            chance = random.Random(f"{place} {turn}")
            head = head_of(sizes, games, some_numbers(sizes, games, rounds, chance))
            book = Book(head)
            yield "\n".join([head, *(some_wish(book, chance) for _ in range(turn + 1))])


def light_books(many):
    """Texts of small books in which each wish bars little, so that several of them must clash."""
    for (sizes, games, numbers), turn in product(SMALL, range(many)):
        chance = random.Random(f"{sizes} {games} {turn}")
        head = head_of(sizes, games, numbers)
        lines = []
        for _ in range(7):
            at, low, name = chance.randrange(len(numbers)), chance.choice((0, 0, 1)), chance.choice(Book(head).names)
            lines.append(f"each {low}-{chance.choice((1, 1, 0)) + low} {name} in {at}-{at} of {chance.choice(list(games))}")
        yield "\n".join([head, *lines])


class Clash(Raising, unittest.TestCase):
    def test_all_books(self):
        told = []
        for text in [*some_books(20), *light_books(20)]:
            wishes, book = Wishes(text), Book(text)
            found = clash(wishes)
            self.assertEqual(found, clash_of(book))
            if found is not None:
                self.assertFalse(book.can_meet(found))
                for number in found:
                    self.assertTrue(book.can_meet([other for other in found if other != number]))
                self.assertFalse(found is clash(wishes))
            told.append(found)
        self.assertGreater(told.count(None), 50)
        self.assertGreater(len({tuple(one) for one in told if one is not None}), 12)

    def test_crowded_kinds_of_the_clash(self):
        for text in [*some_books(25), *large_books(12, 5)]:
            wishes, book = Wishes(text), Book(text)
            found, kinds = clash(wishes), clash_kinds(wishes)
            self.assertEqual(found is None, kinds is None)
            if kinds is not None:
                self.assertEqual(kinds, [kind for kind in kinds_in_order(book.sizes, book.games) if kind in kinds])
                self.assertTrue(crowded(book.sizes, book.games, book.numbers, book.barred(found), kinds))
                self.assertEqual(kinds, clash_kinds(Wishes(text)))

    def test_wishes_are_left_out_from_the_last_one_on(self):
        one, other = "each 1-1 old in 0-1", "each 1-2 young in 2-2"
        for lines, wanted in [
            ([one, other], [0, 1]), ([one, one, other], [0, 2]), ([other, one, one, other], [0, 1]), ([one, one], None),
            ([one, "each 0-1 young in 0-0", other, other], [0, 2]), (["each 9-9 old in 0-0", one, other], [0]),
            ([one, other, "each 9-9 old in 0-0"], [0, 1]), ([], None), (["cost 9 old in 0-0"], None),
        ]:
            self.assertEqual(clash(Wishes("\n".join([HEAD, *lines]))), wanted)

    def test_many_wishes(self):
        for text in large_books(20, 20):
            wishes = Wishes(text)
            found = clash(wishes)
            for number in found or []:
                lines = [wishes.lines[other] for other in found if other != number]
                self.assertIsNone(clash(Wishes("\n".join([*text.split("\n")[: -len(wishes)], *lines]))))
        lines = [f"each 0-{2 + at % 3} old in {at % 2}-2" for at in range(57)]
        lines += ["each 1-1 old in 0-1", "each 0-1 young in 0-0", "each 1-2 young in 2-2"]
        self.assertEqual(clash(Wishes("\n".join([HEAD, *lines]))), [57, 59])


class Ranges(Raising, unittest.TestCase):
    def assert_plan(self, plan, book, at, kind, number):
        """Whether a plan is as point 78 asks, judged from its teams."""
        self.assertIs(type(plan), Plan)
        self.assertEqual((plan.people, plan.games, len(plan)), (sum(book.sizes), book.games, len(book.numbers)))
        classes = classes_of(book.sizes)
        for place, (row, teams) in enumerate(zip(book.numbers, plan.rounds)):
            for size in book.games:
                self.assertEqual(sum(len(team) == size for team in teams), row.get(size, 0))
            self.assertFalse(any(book.breaks(wish, place, team) for wish in book.wishes for team in teams))
        told = [tuple(len(set(team) & set(members)) for members in classes) for team in plan.rounds[at]]
        self.assertEqual(told.count(kind), number)
        self.assertTrue(is_even(plan, classes))

    def test_all_entries_of_all_books(self):
        wide = 0
        for text in some_books(12):
            wishes, book = Wishes(text), Book(text)
            tables = book.fitting()
            for at, kind in product(range(len(book.numbers)), kinds_in_order(book.sizes, book.games)):
                found = sorted({number_in(rounds, at, kind) for rounds in tables})
                self.assertEqual(found, list(range(found[0], found[-1] + 1)) if found else [])
                wanted = (found[0], found[-1]) if found else None
                self.assertEqual(range_of(wishes, at, kind), wanted)
                wide += len(found) > 1
                for number in (*range(5), 10**29):
                    plan = plan_with(wishes, at, kind, number)
                    if number in found:
                        self.assert_plan(plan, book, at, kind, number)
                    else:
                        self.assertIsNone(plan)
        self.assertGreater(wide, 100)

    def test_many_people(self):
        wide = 0
        for text in large_books(4, 6):
            wishes, book = Wishes(text), Book(text)
            chance = random.Random(text)
            for _ in range(12):
                at, kind = chance.randrange(6), chance.choice(kinds_in_order(book.sizes, book.games))
                found = range_of(wishes, at, kind)
                if found is None:
                    self.assertIsNotNone(clash(wishes))
                    continue
                least, greatest = found
                wide += greatest > least
                for number in {least, greatest, (least + greatest) // 2}:
                    self.assert_plan(plan_with(wishes, at, kind, number), book, at, kind, number)
                for number in {max(0, least - 1), greatest + 1} - {least}:
                    self.assertIsNone(plan_with(wishes, at, kind, number))
        self.assertGreater(wide, 20)

    def test_equal_arguments_give_equal_plans(self):
        for text in large_books(2, 6):
            kind = kinds_in_order(Book(text).sizes, Book(text).games)[2]
            self.assertEqual(plan_with(Wishes(text), 1, kind, 1), plan_with(Wishes(text), 1, kind, 1))

    def test_wrong_entries(self):
        for text in (HEAD, HEAD + "\neach 9-9 old in 0-0"):
            wishes = Wishes(text)
            for at in [*NO_INTEGERS, -1, 3, 4, 10**29, -(10**29)]:
                self.assert_raises("BadRound", [at], range_of, wishes, at, None)
                self.assert_raises("BadRound", [at], plan_with, wishes, at, (9, 9), -1)
            for kind in NO_KINDS:
                self.assert_raises("BadKind", [kind], range_of, wishes, 2, kind)
                self.assert_raises("BadKind", [kind], plan_with, wishes, 2, kind, -1)
            for number in [*NO_INTEGERS, -1, -(10**29)]:
                self.assert_raises("BadNumber", [number], plan_with, wishes, 2, (1, 1), number)


class Needless(unittest.TestCase):
    def test_all_books(self):
        told = []
        for text in [*some_books(20), *(HEAD + "".join(f"\n{line}" for line in some) for some in all_lists([
            "each 1-1 old in 0-1", "each 1-1 young in 0-0", "each 0-1 young in 1-1", "each 0-2 old in 0-2",
            "each 2-2 old in 2-2", "each 0-1 old in 0-0",
        ]))]:
            book = Book(text)
            wanted = []
            for number in range(len(book.wishes)):
                others = [other for other in range(len(book.wishes)) if other != number]
                shut = book.barred([number])
                if not any(number_in(rounds, *entry) for rounds in book.fitting(others) for entry in shut):
                    wanted.append(number)
            self.assertEqual(needless_wishes(Wishes(text)), wanted)
            told.extend(number in wanted for number in range(len(book.wishes)))
        self.assertGreater(min(sum(told), len(told) - sum(told)), 100)

    def test_many_people(self):
        for text in large_books(4, 6):
            wishes, book = Wishes(text), Book(text)
            found = needless_wishes(wishes)
            for number in range(len(wishes)):
                lines = text.split("\n")
                place = len(lines) - len(wishes) + number
                without = Wishes("\n".join(lines[:place] + lines[place + 1 :]))
                shut = [entry for entry in book.barred([number]) if entry not in without.barred()]
                used = [range_of(without, *entry) not in (None, (0, 0)) for entry in shut]
                self.assertEqual(number in found, not any(used))

    def test_no_plan_without_a_wish(self):
        self.assertEqual(needless_wishes(Wishes(HEAD + "\neach 9-9 old in 0-0\neach 9-9 old in 1-1")), [0, 1])
        self.assertEqual(needless_wishes(Wishes(HEAD + "\neach 9-9 old in 0-0\neach 0-1 old in 1-1")), [1])
        self.assertFalse(some_fit([2, 2], {2: 1}, [{2: 2}] * 3, Wishes(HEAD + "\neach 9-9 old in 0-0").barred()))

    def test_no_wishes(self):
        self.assertEqual(needless_wishes(Wishes(HEAD)), [])
        self.assertEqual(needless_wishes(Wishes(HEAD + "\ncost 5 old in 0-0")), [])


if __name__ == "__main__":
    unittest.main()
