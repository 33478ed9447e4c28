"""Points 24 and 25: the texts of tables."""

import re
import unittest

from allteams.errors import BadText
from allteams.tables import Table
from tests.support import NO_LISTS, SETTINGS, Raising, games_can_stand, kinds_in_order
from tests.test_tables import added_up, filled

TEXTS = [
    "sizes 2 2\ngames 3:1\nround 2,1:2\nround 1,2:1\nround 1,2:1",
    "sizes 10\ngames 1:1 3:1\nround\nround 1:10 3:120\nround 3:7",
    "sizes 1 2 3\ngames 1:2 2:3\nround 0,0,1:1 0,1,0:20 0,0,2:3 1,1,0:999\nround\nround 1,0,0:1",
]
SIGNS = "0123456789 ,:-+\nadeginorsuz~"


def number_in(word):
    return int(word) if re.fullmatch("0|[1-9][0-9]{0,29}", word) else None


def can_stand(before, line):
    """Whether a line can stand behind right lines, judged without the package's own ways."""
    words = line.split(" ")
    if not before:
        sizes = [number_in(word) for word in words[1:]]
        right = words[0] == "sizes" and 1 <= len(sizes) <= 10 and None not in sizes and 0 not in sizes
        return right and sum(sizes) <= 10
    sizes = [int(word) for word in before[0].split(" ")[1:]]
    if len(before) == 1:
        return games_can_stand(sum(sizes), line)
    told = [int(word[0]) for word in before[1].split(" ")[1:]]
    if words[0] != "round" or not all(re.fullmatch("[0-9,]+:[1-9][0-9]{0,29}", word) for word in words[1:]):
        return False
    numbers = [[number_in(part) for part in word.split(":")[0].split(",")] for word in words[1:]]
    for kind in numbers:
        if None in kind or len(kind) != len(sizes) or any(few > size for few, size in zip(kind, sizes)):
            return False
    places = [(sum(kind), kind) for kind in numbers]
    return all(sum(kind) in told for kind in numbers) and all(a < b for a, b in zip(places, places[1:]))


def wrong_line(text):
    """The number that BadText must tell, or None if the text is right."""
    lines = text.split("\n")
    for at, line in enumerate(lines):
        if at == 132 or not can_stand(lines[:at], line):
            return at + 1
    return len(lines) + 1 if len(lines) < 3 else None


def told_line(text):
    try:
        table = Table.read(text)
    except BadText as error:
        return error.line
    assert table.text() == text, text
    return None


class Writing(unittest.TestCase):
    def test_settings(self):
        for sizes, games in SETTINGS:
            table, numbers = filled(sizes, games, 3)
            lines = table.text().split("\n")
            self.assertEqual(lines[0], "sizes " + " ".join(map(str, sizes)))
            self.assertEqual(lines[1], "games " + " ".join(f"{size}:{games[size]}" for size in sorted(games)))
            self.assertEqual(len(lines), 5)
            for row, line in zip(numbers, lines[2:]):
                kinds = [kind for kind in kinds_in_order(sizes, games) if row[kind]]
                words = [",".join(map(str, kind)) + ":" + str(row[kind]) for kind in kinds]
                self.assertEqual(line, " ".join(["round", *words]))

    def test_team_sizes_and_kinds_stand_in_order(self):
        table = Table([2, 2], {2: 3, 1: 2}, [{(1, 1): 3, (1, 0): 2, (0, 2): 1, (0, 1): 0}, {}])
        self.assertEqual(table.text(), "sizes 2 2\ngames 1:2 2:3\nround 1,0:2 0,2:1 1,1:3\nround")

    def test_numbers_of_30_digits(self):
        big = 10**30 - 1
        text = Table([1], {1: 1}, [{(1,): big}]).text()
        self.assertEqual(text, "sizes 1\ngames 1:1\nround 1:" + "9" * 30)
        self.assertEqual(Table.read(text).number(0, (1,)), big)


class Reading(Raising, unittest.TestCase):
    def assert_line(self, line, text):
        self.assert_raises("BadText", [line], Table.read, text)

    def test_what_is_written_is_read(self):
        for sizes, games in SETTINGS:
            for table in (filled(sizes, games, 5)[0], added_up(sizes, games, 7), Table(sizes, games, [{}])):
                again = Table.read(table.text())
                self.assertEqual(again, table)
                self.assertIs(type(again), Table)
                self.assertEqual(again.text(), table.text())

    def test_right_texts(self):
        for text in TEXTS:
            self.assertIsNone(told_line(text))

    def test_no_strings(self):
        for value in [*[item for item in NO_LISTS if not isinstance(item, str)], [], ["sizes 1"], TEXTS[0].encode()]:
            self.assert_line(0, value)

    def test_missing_lines(self):
        self.assert_line(1, "")
        self.assert_line(1, "\n")
        self.assert_line(2, "sizes 2 2")
        self.assert_line(2, "sizes 2 2\n")
        self.assert_line(3, "sizes 2 2\ngames 2:1")
        self.assert_line(3, "sizes 2 2\ngames 2:1\n")
        self.assert_line(4, "sizes 2 2\ngames 2:1\nround\n")
        self.assert_line(1, "\nsizes 2 2\ngames 2:1\nround")

    def test_130_rounds_and_more(self):
        head = "sizes 2 2\ngames 2:1"
        for many in range(1, 131):
            self.assertEqual(len(Table.read(head + "\nround 1,1:1" * many)), many)
        for many in (131, 132, 133, 200, 1000):
            self.assert_line(133, head + "\nround" * many)
        self.assert_line(133, head + "\nround" * 130 + "\n")
        self.assert_line(133, head + "\nround" * 130 + "\nround 9,9:9")
        self.assert_line(132, head + "\nround" * 129 + "\nroun" + "\nround" * 10)
        self.assert_line(3, head + "\nround 3,0:1" + "\nround" * 200)
        self.assert_line(2, "sizes 2 2\ngames 5:1" + "\nround" * 200)
        self.assert_line(1, "sizes 11\ngames 5:1" + "\nround" * 200)

    def test_wrong_sizes(self):
        lines = [
            "sizes", "sizes ", "size 2 2", "sizes  2 2", " sizes 2 2", "sizes 2 2 ", "sizes 2,2", "sizes 0 2",
            "sizes 02 2", "sizes +2 2", "sizes -2 2", "sizes 11", "sizes 5 6", "sizes" + " 1" * 11, "Sizes 2 2",
            "sizes 2\t2", "sizes 2.0", "sizes 2_2", "sizes " + "1" * 31, "sizes " + "1" * 19000, "sizes2 2",
            "sizes \u0662 \u0662", "sizes \u00b2", "people 4", "games 2:1", "sizes 2 2\r", "sizes x",
        ]
        for line in lines:
            self.assert_line(1, line)
            self.assert_line(1, line + "\ngames 2:1\nround")
        for line in ["sizes 10", "sizes" + " 1" * 10, "sizes 9 1"]:
            self.assertIsNone(told_line(line + "\ngames 1:1\nround"))

    def test_wrong_games(self):
        lines = [
            "games", "games ", "games 2", "games 2:", "games :1", "games 2:0", "games 0:1", "games 2:4", "games 5:1",
            "games 02:1", "games 2:01", "games 2:1:1", "games 2:1 2:1", "games 2:1 2:2", "games 3:1 2:1", "games 2:1 ",
            "games  2:1", "games 1:1 2:1 3:1", "games 2:1,3:1", "Games 2:1", "game 2:1", "games +2:1", "games 2:-1",
            "games 2 :1", "games 2: 1", "games None:None", "games 2:None", "games x:1", "games 2;1", "sizes 2 2",
            "games \u0662:1", "games 2:1 3:", "games 2:1 3", "games 2:1\r", " games 2:1", "games2:1",
        ]
        for line in lines:
            self.assert_line(2, "sizes 2 3\n" + line)
            self.assert_line(2, "sizes 2 3\n" + line + "\nround")
            self.assert_line(2, "sizes 2 3\n" + line + "\nround 1:1")

    def test_games_need_people_and_not_too_many_teams(self):
        self.assert_line(2, "sizes 2\ngames 3:1\nround")
        self.assert_line(2, "sizes 1 2\ngames 2:1 4:1\nround")
        self.assert_line(2, "sizes 10\ngames 4:1\nround")
        self.assert_line(2, "sizes 5 5\ngames 1:2 3:1\nround")
        self.assertEqual(Table.read("sizes 5 5\ngames 1:1 3:1\nround").games, {1: 1, 3: 1})

    def test_wrong_rounds(self):
        lines = [
            "", "round ", "rounds", "roun", "Round", " round", "round  1,0:1", "round 1,0:1 ", "round 1,0", "round 1,0:",
            "round 1,0:0", "round 1,0:00", "round 1,0:01", "round 1,0:-1", "round 1,0:+1", "round 01,0:1", "round :1",
            "round 1,00:1", "round 1:1", "round 1,0,0:1", "round 1, 0:1", "round 1,0 :1", "round 1,0: 1", "round 1,0:1:1",
            "round 1,0:1,0,1:1", "round 1,0:1 0,1:1", "round 0,2:1 1,0:1", "round 1,0:1 1,0:1", "round 1,0:1 1,0:2",
            "round 3,0:1", "round 0,0:1", "round 2,1:1", "round -1,2:1", "round 1,0:" + "1" * 31, "round 1,0:x",
            "round 1,0:1" + "0" * 19000, "round 1,0:\u0661", "round \u0661,0:1", "round 1,0:None", "round None:1",
            "round 2,0:1 1,1:1", "round1,0:1", "sizes 2 2", "games 2:1", "round 1,0:1\r", "round 1;0:1", "round 1,0=1",
        ]
        for line in lines:
            self.assert_line(3, "sizes 2 2\ngames 1:1 2:1\n" + line)
            self.assert_line(3, "sizes 2 2\ngames 1:1 2:1\n" + line + "\nround x")
            self.assert_line(5, "sizes 2 2\ngames 1:1 2:1\nround\nround 1,0:1 0,2:1\n" + line)

    def test_one_sign_more_less_or_another_one(self):
        for text in TEXTS:
            for at in range(len(text) + 1):
                changed = [text[:at] + text[at + 1 :]]
                for sign in SIGNS:
                    changed.append(text[:at] + sign + text[at:])
                    changed.append(text[:at] + sign + text[at + 1 :])
                for other in changed:
                    self.assertEqual(told_line(other), wrong_line(other), other)

    def test_lines_left_out_twice_and_turned_about(self):
        for text in TEXTS:
            lines = text.split("\n")
            for at in range(len(lines)):
                changed = [lines[:at] + lines[at + 1 :], lines[: at + 1] + lines[at:], lines[at:] + lines[:at]]
                changed.append(lines[:at] + lines[at : at + 2][::-1] + lines[at + 2 :])
                for other in ["\n".join(rows) for rows in changed]:
                    self.assertEqual(told_line(other), wrong_line(other), other)

    def test_words_turned_about_left_out_and_twice(self):
        for text in TEXTS:
            lines = text.split("\n")
            for at, line in enumerate(lines):
                words = line.split(" ")
                for k in range(len(words)):
                    changed = [words[:k] + words[k + 1 :], words[: k + 1] + words[k:], words[k:] + words[:k]]
                    changed.append(words[:k] + words[k : k + 2][::-1] + words[k + 2 :])
                    for row in changed:
                        other = "\n".join([*lines[:at], " ".join(row), *lines[at + 1 :]])
                        self.assertEqual(told_line(other), wrong_line(other), other)

    def test_class_method_of_an_object(self):
        table = Table([1], {1: 1}, [{}])
        self.assertEqual(table.read(TEXTS[0]).text(), TEXTS[0])
        self.assertEqual(table.text(), "sizes 1\ngames 1:1\nround")


if __name__ == "__main__":
    unittest.main()
