"""Points 41 to 44: shares dealt out whole."""

import unittest
from copy import deepcopy
from fractions import Fraction
from itertools import product
from math import ceil, floor

from allteams.shares import dealt, is_dealt
from tests.support import Raising, numbers_without_order


def shares_of(rows, bottom):
    return [[Fraction(number, bottom) for number in row] for row in rows]


def is_rounding(number, share):
    return number in (floor(share), ceil(share))


def is_right(rows, bottom, given):
    """Whether given is as point 42 asks, judged without the package's own ways."""
    shares = shares_of(rows, bottom)
    if len(given) != len(rows) or any(len(told) != len(row) for told, row in zip(given, rows)):
        return False
    return (
        all(is_rounding(number, share) for told, row in zip(given, shares) for number, share in zip(told, row))
        and all(sum(told) == sum(column) for told, column in zip(zip(*given), zip(*shares)))
        and all(is_rounding(sum(told), sum(row)) for told, row in zip(given, shares))
    )


def broken_column(rows, bottom):
    """The first column whose shares do not add up to a whole number, or None."""
    for at, column in enumerate(zip(*shares_of(rows, bottom))):
        if sum(column).denominator > 1:
            return at
    return None


def small_tables():
    """All small tables of a few shapes, most of them with broken columns."""
    for many, wide, most, bottoms in [(1, 1, 6, 5), (2, 1, 4, 4), (1, 3, 3, 3), (2, 2, 3, 4), (3, 2, 2, 3), (2, 3, 2, 3)]:
        for numbers in product(range(most + 1), repeat=many * wide):
            rows = [list(numbers[at * wide : (at + 1) * wide]) for at in range(many)]
            for bottom in range(1, bottoms + 1):
                yield rows, bottom


def mixed_table(many, wide, bottom, most, filled, first):
    """A table without any rule, but with whole sums of the columns; about filled of a hundred places are not 0."""
    numbers = numbers_without_order(first)
    rows = [[0] * wide for _ in range(many)]
    for column in range(wide):
        for at in range(many):
            if next(numbers) % 100 < filled:
                rows[at][column] = next(numbers) % (most + 1)
        # What is missing for a whole sum goes to one row, or bit by bit to several of them.
        while sum(row[column] for row in rows) % bottom:
            rows[next(numbers) % many][column] += 1
    return rows


class Dealing(Raising, unittest.TestCase):
    def assert_dealt(self, rows, bottom):
        before = deepcopy(rows)
        told = dealt(rows, bottom)
        self.assertTrue(is_right(rows, bottom, told), (rows, bottom, told))
        self.assertIs(is_dealt(rows, bottom, told), True)
        self.assertEqual(rows, before)
        self.assertEqual({type(row) for row in [told, *told]}, {list})
        self.assertEqual(dealt(tuple(tuple(row) for row in rows), bottom), told)
        return told

    def test_all_small_tables(self):
        right = 0
        for rows, bottom in small_tables():
            column = broken_column(rows, bottom)
            if column is None:
                self.assert_dealt(rows, bottom)
                right += 1
            else:
                self.assert_raises("BadShares", [column], dealt, rows, bottom)
        self.assertGreater(right, 1000)

    def test_mixed_tables(self):
        for many, wide, bottom, most, filled in product((1, 2, 3, 5, 9), (1, 2, 4, 8), (1, 2, 3, 7, 60), (1, 70), (30, 90)):
            self.assert_dealt(mixed_table(many, wide, bottom, most, filled, many + 10 * wide + 100 * bottom), bottom)

    def test_rows_that_need_a_share_of_which_others_could_do_without(self):
        # The first rows could round up what only the last row must have.
        self.assertEqual(self.assert_dealt([[1, 1, 0], [1, 0, 1], [0, 1, 1]], 2)[0].count(1), 1)
        self.assert_dealt([[1, 0, 0], [1, 0, 0], [1, 3, 3], [1, 1, 1]], 4)
        self.assert_dealt([[1, 1, 1], [2, 2, 2]], 3)
        self.assert_dealt([[2, 2, 2], [1, 1, 1]], 3)
        self.assert_dealt([[1, 0], [1, 2], [1, 1]], 3)
        self.assert_dealt([[1, 0, 0, 2], [1, 2, 0, 0], [1, 1, 2, 0], [0, 0, 1, 1]], 3)

    def test_whole_shares_stay(self):
        self.assertEqual(dealt([[4, 0], [2, 6]], 2), [[2, 0], [1, 3]])
        self.assertEqual(dealt([[10000, 9], [0, 7]], 1), [[10000, 9], [0, 7]])
        told = dealt([[60, 30, 0], [120, 90, 0]], 60)
        self.assertEqual(([row[0] for row in told], [row[2] for row in told]), ([1, 2], [0, 0]))
        self.assertEqual(dealt([[0]], 60), [[0]])

    def test_great_tables(self):
        for many, wide, places in [(130, 130, 3), (130, 4, 96), (4, 130, 96), (130, 3, 100), (3, 130, 100), (20, 20, 96)]:
            for bottom in (2, 10, 59, 60):
                rows = mixed_table(many, wide, bottom, 10000 - 60 * bottom, places, bottom)
                self.assert_dealt(rows, bottom)

    def test_one_long_way(self):
        # Each row shares a column with the next one, so that one share may move all others.
        many = 130
        rows = [[1 if column in (at, at - 1) else 0 for column in range(many - 1)] for at in range(many)]
        self.assert_dealt(rows, 2)
        self.assert_dealt(rows[::-1], 2)
        rows = [[3 if column == at else 2 if column == at - 1 else 0 for column in range(many - 1)] for at in range(many)]
        self.assert_dealt(rows, 5)
        rows = [[2 if column == at else 3 if column == at - 1 else 0 for column in range(many - 1)] for at in range(many)]
        self.assert_dealt(rows, 5)

    def test_first_column_that_is_no_whole_number(self):
        self.assert_raises("BadShares", [0], dealt, [[1]], 2)
        self.assert_raises("BadShares", [0], dealt, [[1, 1, 1]], 60)
        self.assert_raises("BadShares", [2], dealt, [[2, 3, 1], [1, 0, 1]], 3)
        self.assert_raises("BadShares", [1], dealt, [[2, 3, 1], [1, 1, 1]], 3)
        self.assert_raises("BadShares", [129], dealt, [[60] * 129 + [59]], 60)

    def test_what_is_returned_is_new(self):
        rows = [[2, 4], [2, 0]]
        told = dealt(rows, 2)
        told[0].append(7)
        told[1].clear()
        self.assertEqual((rows, dealt(rows, 2)), ([[2, 4], [2, 0]], [[1, 2], [1, 0]]))
        self.assertEqual(dealt([[0, 0]] * 2, 3), [[0, 0], [0, 0]])
        zeros = dealt([[0, 0]] * 2, 3)
        zeros[0][0] = 1
        self.assertEqual(zeros, [[1, 0], [0, 0]])


class Judging(Raising, unittest.TestCase):
    def test_all_integers_for_small_tables(self):
        found = {True: 0, False: 0}
        for rows, bottom in small_tables():
            if len(rows) * len(rows[0]) > 4:
                continue
            column = broken_column(rows, bottom)
            if column is not None:
                self.assert_raises("BadShares", [column], is_dealt, rows, bottom, [[1] * len(row) for row in rows])
                continue
            for numbers in product(range(-1, 4), repeat=len(rows) * len(rows[0])):
                wide = len(rows[0])
                given = [list(numbers[at * wide : (at + 1) * wide]) for at in range(len(rows))]
                told = is_dealt(rows, bottom, given)
                self.assertIs(told, is_right(rows, bottom, given), (rows, bottom, given))
                found[told] += 1
        self.assertGreater(min(found.values()), 200)

    def test_lengths(self):
        rows = [[1, 1, 0], [1, 1, 0]]
        self.assertIs(is_dealt(rows, 2, [[1, 0, 0], [0, 1, 0]]), True)
        self.assertIs(is_dealt(rows, 2, ((1, 0, 0), (0, 1, 0))), True)
        wrong = [
            [], [[]], [[], []], [[1, 0, 0]], [[1, 0, 0], [0, 1, 0], []], [[1, 0, 0], [0, 1, 0], [0, 0, 0]],
            [[1, 0], [0, 1]], [[1, 0, 0], [0, 1]], [[1, 0], [0, 1, 0]], [[1, 0, 0, 0], [0, 1, 0, 0]],
            [[1, 0, 0], [0, 1, 0, 0]], [[1, 0, 0, 0], [0, 1]], [[1], [0, 1, 0]], [[1, 0, 0], []],
        ]
        for given in wrong:
            self.assertIs(is_dealt(rows, 2, given), False)
            self.assert_raises("BadShares", [1], is_dealt, [[1, 1, 1], [1, 0, 0]], 2, given)

    def test_one_condition_broken(self):
        # An integer that does not round its share, and then the sum of a column, and then that of a row.
        self.assertIs(is_dealt([[2, 2], [2, 2]], 2, [[2, 0], [0, 2]]), False)
        self.assertIs(is_dealt([[1, 1], [1, 1]], 2, [[1, 0], [1, 0]]), False)
        self.assertIs(is_dealt([[1, 1], [1, 1]], 2, [[1, 1], [0, 0]]), False)
        self.assertIs(is_dealt([[1, 1], [1, 1]], 2, [[0, 1], [1, 0]]), True)
        self.assertIs(is_dealt([[1, 2], [2, 1]], 3, [[0, 1], [1, 0]]), True)
        self.assertIs(is_dealt([[1, 2], [2, 1]], 3, [[1, 0], [0, 1]]), True)
        self.assertIs(is_dealt([[1, 2], [2, 1]], 3, [[1, 1], [0, 0]]), False)

    def test_arguments_are_not_modified(self):
        rows, given = [[1, 1], [1, 1]], [[1, 0], [0, 1]]
        is_dealt(rows, 2, given)
        is_dealt(rows, 2, given[:1])
        self.assertEqual((rows, given), ([[1, 1], [1, 1]], [[1, 0], [0, 1]]))

    def test_small_changes_of_what_is_dealt(self):
        numbers = numbers_without_order(5)
        for many, wide, bottom in product((1, 2, 4), (1, 3), (2, 3, 7)):
            rows = mixed_table(many, wide, bottom, 20, 80, bottom)
            told = dealt(rows, bottom)
            for _ in range(30):
                given = deepcopy(told)
                for _ in range(next(numbers) % 3 + 1):
                    given[next(numbers) % many][next(numbers) % wide] += 1 if next(numbers) % 2 else -1
                self.assertIs(is_dealt(rows, bottom, given), is_right(rows, bottom, given))


if __name__ == "__main__":
    unittest.main()
