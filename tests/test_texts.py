"""Points 3 and 24: integers and games in texts, as all texts of the package have them."""

import unittest

from allteams.errors import BadText
from allteams.texts import (
    comma_word, games_in, games_line, integer_in, line_at, lines_of, rounds_in, words_behind,
)
from tests.support import NO_LISTS


class Integers(unittest.TestCase):
    def test_right_words(self):
        for number in [0, 1, 9, 10, 100, 130, 10**29, 10**30 - 1]:
            self.assertEqual(integer_in(str(number)), number)

    def test_wrong_words(self):
        wrong = [
            "", " ", "00", "01", "+1", "-1", "-0", "1 ", " 1", "1.0", "1_0", "0x1", "x", "None", "\u0661", "\u00b2",
            "1\n", str(10**30), "1" * 20000,
        ]
        for word in wrong:
            self.assertIsNone(integer_in(word), word[:40])


class Lines(unittest.TestCase):
    def test_lines(self):
        self.assertEqual(lines_of("a\n\nb c\n"), ["a", "", "b c", ""])
        self.assertEqual([line_at(["a", "b"], at) for at in range(3)], ["a", "b", ""])
        self.assertEqual(words_behind("round", "round a  b "), ["a", "", "b", ""])
        self.assertEqual([words_behind("round", line) for line in ("round", "rounds a", "", " round")], [[]] + [None] * 3)

    def test_no_strings(self):
        for value in [item for item in NO_LISTS if not isinstance(item, str)] + [[], ()]:
            with self.assertRaises(BadText) as caught:
                lines_of(value)
            self.assertEqual(caught.exception.line, 0)

    def test_games(self):
        for games in [{1: 1}, {4: 3}, {3: 1, 2: 2}]:
            self.assertEqual(games_in(games_line(games), 6), games)
        self.assertEqual(games_line({3: 1, 2: 2}), "games 2:2 3:1")
        self.assertIsNone(games_in("games 4:1", 3))
        self.assertIsNone(games_in("games 4:1", 10))

    def test_words_of_several_integers(self):
        self.assertEqual([comma_word((1, 0, 10)), comma_word((7,))], ["1,0,10", "7"])

    def test_rounds(self):
        def reading(line, words):
            return words.get(line)

        words = {"a": [1], "b": []}
        self.assertEqual(rounds_in(["x", "y", "a", "b", "a"], reading, words), [[1], [], [1]])
        self.assertEqual(rounds_in(["", ""] + ["a"] * 130, reading, words), [[1]] * 130)
        for lines, line in [(["a"], 3), (["a", "a"], 3), (["a"] * 3 + ["c", "a"], 4), (["a"] * 133, 133), (["a"] * 500, 133)]:
            with self.assertRaises(BadText) as caught:
                rounds_in(lines, reading, words)
            self.assertEqual(caught.exception.line, line)


if __name__ == "__main__":
    unittest.main()
