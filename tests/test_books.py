"""Points 70 to 72: the texts of books of wishes."""

import math
import unittest

from allteams.errors import BadWish, WrongSum
from allteams.wishes import Wishes
from tests.models import Book, some_books
from tests.support import NO_LISTS, Raising

HEAD = "classes old 2 young 2\ngames 2:1\nrounds 3 2:2"
TEXTS = [
    HEAD + "\neach 1-1 old in 0-1\ncost 3 young in 2-2\ncost -12 old in 0-2 of 2",
    "classes a 1\ngames 1:2\nrounds 2 1:1\neach 0-9 a in 1-1 of 1",
    "classes in 3 of 1 each 1\ngames 1:1 3:1\nrounds 1 1:5\nrounds 4 3:2\nrounds 1 1:0 3:2\neach 0-2 in in 1-1 of 3"
    "\ncost 5 of in 0-5 of 1\neach 1-1 each in 5-5",
]
SIGNS = "0123456789 :-+,\nabdeghilmnorsuwyz~"

NO_TEXTS = [value for value in NO_LISTS if not isinstance(value, str)] + [[], [HEAD], (HEAD,), HEAD.encode()]


def wrong_sum(book):
    """What WrongSum must tell of a book all of whose lines can stand, or None."""
    for size, times in sorted(book.games.items()):
        told, due = sum(row.get(size, 0) for row in book.numbers), times * math.comb(sum(book.sizes), size)
        if told != due:
            return size, told, due
    return None


def told_of(text):
    """What is wrong with a text by the package, or None."""
    try:
        Wishes(text)
    except BadWish as error:
        return error.line
    except WrongSum as error:
        return error.size, error.told, error.due
    return None


class Texts(Raising, unittest.TestCase):
    def assert_judged(self, text):
        book = Book(text)
        wanted = book.wrong if book.wrong is not None else wrong_sum(book)
        self.assertEqual(told_of(text), wanted, text)
        return wanted

    def test_each_sign_taken_away_put_in_or_put_in_the_place_of_another(self):
        told = []
        for text in TEXTS:
            self.assertIsNone(self.assert_judged(text))
            for at in range(len(text) + 1):
                told.append(self.assert_judged(text[:at] + text[at + 1 :]))
                for sign in SIGNS:
                    told.append(self.assert_judged(text[:at] + sign + text[at:]))
                    told.append(self.assert_judged(text[:at] + sign + text[at + 1 :]))
        self.assertGreater(told.count(None), 100)
        self.assertGreater(len([one for one in told if isinstance(one, tuple)]), 50)

    def test_each_line_taken_away_doubled_or_moved(self):
        for text in TEXTS:
            lines = text.split("\n")
            for at, line in enumerate(lines):
                rest = lines[:at] + lines[at + 1 :]
                for place in range(len(rest) + 1):
                    self.assert_judged("\n".join(rest[:place] + [line] + rest[place:]))
                    self.assert_judged("\n".join(lines[:place] + [line] + lines[place:]))
                    self.assert_judged("\n".join(lines[:place] + [""] + lines[place:]))
                self.assert_judged("\n".join(rest))
                self.assert_judged("\n".join(lines[:at]))

    def test_books(self):
        for text in some_books(10, 4):
            self.assertIsNone(self.assert_judged(text))

    def test_no_texts(self):
        for value in NO_TEXTS:
            self.assert_raises("BadWish", [0], Wishes, value)

    def test_texts_that_end_too_early(self):
        for text, line in [
            ("", 1), ("\n", 1), ("classes a 2", 2), ("classes a 2\n", 2), ("classes a 2\ngames 2:1", 3),
            ("classes a 2\ngames 2:1\n", 3), ("classes a 2\ngames 2:1\neach 0-1 a in 0-0", 3), (HEAD + "\n", 4),
        ]:
            self.assert_raises("BadWish", [line], Wishes, text)

    def test_lines_that_cannot_stand(self):
        for line in [
            "classes", "classes a", "classes 2", "classes a 0", "classes a 11", "classes a 6 b 5", "classes a 2 a 1",
            "classes A 2", "classes a1 2", "classes abcdefghi 2", "classes a 02", "classes a  2", "classes  a 2",
            " classes a 2", "classes a 2 ", "Classes a 2", "classes a 2 b", "classes a -2", "classes a +2", "classes",
            " ".join(["classes", *(f"{name} 1" for name in "abcdefghijk")]),
        ]:
            self.assert_raises("BadWish", [1], Wishes, HEAD.replace("classes old 2 young 2", line))
        for line in [
            "games", "games 2", "games 2:0", "games 2:4", "games 5:1", "games 1:1 2:1 3:1", "games 2:1 1:1",
            "games 2:1 2:1", "games 2:1 ", "games  2:1", "games 02:1", "games 2:1:1", "games a:1", "rounds 3 2:2",
        ]:
            self.assert_raises("BadWish", [2], Wishes, HEAD.replace("games 2:1", line))
        self.assert_raises("BadWish", [2], Wishes, "classes a 10\ngames 4:1\nrounds 70 4:3")
        for line in [
            "rounds", "rounds 3", "rounds 0 2:2", "rounds 03 2:2", "rounds -3 2:2", "rounds 3 2:-2", "rounds 3 2:02",
            "rounds 3 1:2", "rounds 3 2:2 2:2", "rounds 3 2:2 3:0", "rounds 3 2:2 ", "rounds 131 2:0", "rounds 3 2",
            "rounds 3 :2", "rounds 3 2:", "rounds  3 2:2", "Rounds 3 2:2", "round 3 2:2", f"rounds {10**29} 2:0",
            f"rounds 3 2:{10**30}", "rounds 3 2:2:2", "each 0-1 old in 0-0", "cost 1 old in 0-0",
        ]:
            self.assert_raises("BadWish", [3], Wishes, HEAD.replace("rounds 3 2:2", line))
        for line in [
            "", "each", "each 0-1 old in", "each 0-1 old in 0", "each 2-1 old in 0-0", "each 0-10 old in 0-0",
            "each 10-11 old in 0-0", "each 0-1 no in 0-0", "each 0-1 old in 0-3", "each 0-1 old in 1-0",
            "each 0-1 old in 3-3", "each 0-1 old on 0-0", "each 0-1 old in 0-0 of", "each 0-1 old in 0-0 of 3",
            "each 0-1 old in 0-0 of 02", "each 0-1 old in 0-0 if 2", "each 0-1 old in 0-0 of 2 ", "each 0 old in 0-0",
            "each -0-1 old in 0-0", "each 0-1-1 old in 0-0", "each 0-1 old in 00-0", "Each 0-1 old in 0-0",
            "each 0-1 old young in 0-0", "each 0-1 0 in 0-0", "cost 100 old in 0-0", "cost -100 old in 0-0",
            "cost -0 old in 0-0", "cost 00 old in 0-0", "cost --1 old in 0-0", "cost +1 old in 0-0", "cost old in 0-0",
            "cost 1-1 old in 0-0", "cost 1 no in 0-0", "cost 1 old in 0-3", "cost 1 old in 0-0 of 1", "each 1 old in 0-0",
            "every 0-1 old in 0-0", "costs 1 old in 0-0", "rounds 0 2:0", "rounds 128 2:0", "classes a 1", "games 2:1",
            f"each 0-1 old in 0-{10**29}",
        ]:
            self.assert_raises("BadWish", [4], Wishes, f"{HEAD}\n{line}")
            self.assert_raises("BadWish", [5], Wishes, f"{HEAD}\ncost 1 old in 0-0\n{line}\n~")
        self.assert_raises("BadWish", [5], Wishes, f"{HEAD}\ncost 1 old in 0-0\nrounds 1 2:0")

    def test_the_longest_and_the_most_names(self):
        for line, names in [
            ("classes abcdefgh 2 z 2", ("abcdefgh", "z")), ("classes abcdefgh 1 abcdefg 3", ("abcdefgh", "abcdefg")),
            ("classes in 2 of 2", ("in", "of")), ("classes old 4", ("old",)),
        ]:
            self.assertEqual(Wishes(HEAD.replace("classes old 2 young 2", line)).names, names)
        line = " ".join(["classes", *(f"{name} 1" for name in "abcdefghij")])
        self.assertEqual(Wishes(f"{line}\ngames 1:1\nrounds 1 1:10").names, tuple("abcdefghij"))

    def test_130_rounds(self):
        head = "classes a 10\ngames 1:1 3:1\nrounds 10 1:1\n"
        self.assertEqual(len(Wishes(head + "rounds 120 3:1").numbers), 130)
        self.assertEqual(len(Wishes("classes a 2\ngames 2:1\nrounds 1 2:1\nrounds 129 2:0").numbers), 130)
        self.assert_raises("BadWish", [5], Wishes, head + "rounds 120 3:1\nrounds 1 3:0")
        self.assert_raises("BadWish", [4], Wishes, head + "rounds 121 3:1")
        one = "classes a 2\ngames 2:1\nrounds 1 2:1"
        self.assertEqual(len(Wishes(one + "\nrounds 1 2:0" * 129).numbers), 130)
        self.assert_raises("BadWish", [133], Wishes, one + "\nrounds 1 2:0" * 130)

    def test_60_wishes_and_costs(self):
        lines = ["each 0-1 old in 0-0", "cost 1 old in 0-0"] * 31
        self.assertEqual(len(Wishes("\n".join([HEAD, *lines[:60]]))), 30)
        for many in (61, 62):
            self.assert_raises("BadWish", [64], Wishes, "\n".join([HEAD, *lines[:many]]))

    def test_wrong_sums_come_last(self):
        head = "classes a 3\ngames 1:1 2:1\n"
        self.assert_raises("WrongSum", [1, 2, 3], Wishes, head + "rounds 1 1:2 2:2")
        self.assert_raises("WrongSum", [2, 4, 3], Wishes, head + "rounds 1 1:1 2:2\nrounds 2 1:1 2:1\ncost 1 a in 0-0")
        self.assert_raises("BadWish", [4], Wishes, head + "rounds 1 1:2 2:2\n")
        self.assert_raises("WrongSum", [1, 10**29, 3], Wishes, head + f"rounds 1 1:{10**29} 2:3")
        self.assert_raises("WrongSum", [2, 0, 3], Wishes, head + "rounds 3 1:1")


class Parts(unittest.TestCase):
    def test_properties(self):
        for text in [*TEXTS, *some_books(10, 4)]:
            wishes, book = Wishes(text), Book(text)
            self.assertEqual((wishes.names, wishes.sizes), (tuple(book.names), tuple(book.sizes)))
            self.assertEqual((wishes.games, wishes.numbers), (book.games, book.numbers))
            self.assertEqual(wishes.lines, [line for line in text.split("\n") if line[:4] == "each"])
            self.assertEqual(len(wishes), len(book.wishes))
            told = [wishes.names, wishes.sizes, wishes.games, wishes.numbers, wishes.lines]
            self.assertEqual([type(value) for value in told], [tuple, tuple, dict, list, list])

    def test_numbers_have_just_the_team_sizes_that_are_told(self):
        wishes = Wishes("classes a 2\ngames 1:1 2:1\nrounds 1 1:2\nrounds 2 1:0\nrounds 1 1:0 2:1\nrounds 1 2:0")
        self.assertEqual(wishes.numbers, [{1: 2}, {1: 0}, {1: 0}, {1: 0, 2: 1}, {2: 0}])

    def test_what_is_returned_is_new(self):
        wishes = Wishes("classes a 2\ngames 2:1\nrounds 3 2:0\nrounds 1 2:1\neach 0-2 a in 0-1\ncost 1 a in 3-3")
        numbers = wishes.numbers
        numbers[0][2] = 7
        self.assertEqual(numbers, [{2: 7}, {2: 0}, {2: 0}, {2: 1}])
        wishes.numbers.clear()
        wishes.games.clear()
        wishes.lines.clear()
        wishes.costs().clear()
        wishes.barred().append(5)
        told = (wishes.numbers, wishes.games, wishes.lines, wishes.costs(), wishes.barred())
        self.assertEqual(told, ([{2: 0}] * 3 + [{2: 1}], {2: 1}, ["each 0-2 a in 0-1"], {(3, (2,)): 2}, []))

    def test_books_are_not_equal_to_other_values(self):
        wishes = Wishes(TEXTS[0])
        for value in (None, 0, "", TEXTS[0], [], {}, len(wishes)):
            self.assertFalse(wishes == value)


if __name__ == "__main__":
    unittest.main()
