"""Points 32 and 33: the texts of plans."""

import re
import unittest
from itertools import product

from allteams.errors import BadText, WrongTimes
from allteams.plans import Plan
from tests.support import NO_LISTS, PEOPLE, Raising, dealt_out, games_can_stand, some_plan, teams_in_order

TEXTS = [
    "people 4\ngames 2:1\nround 0,1 2,3\nround 0,2 1,3\nround 0,3 1,2",
    "people 3\ngames 1:2 3:1\nround\nround 0 0 2 0,1,2\nround 1 1\nround 2",
    "people 10\ngames 1:1\nround 0 1 2 3 4 5 6 7 8 9",
]
SIGNS = "0123456789 ,:-+\nadegmnopru~"


def can_stand(before, line):
    """Whether a line can stand behind right lines, judged without the package's own ways."""
    if not before:
        return re.fullmatch("people ([1-9]|10)", line) is not None
    people = int(before[0][len("people "):])
    if len(before) == 1:
        return games_can_stand(people, line)
    if not re.fullmatch("round( [0-9](,[0-9])*)*", line):
        return False
    sizes = [int(word[0]) for word in before[1].split(" ")[1:]]
    teams = [tuple(map(int, word.split(","))) for word in line.split(" ")[1:]]
    for team in teams:
        if len(team) not in sizes or list(team) != sorted(set(team)) or team[-1] >= people:
            return False
    return teams == sorted(teams, key=lambda team: (len(team), team))


def wrong_part(text):
    """The wrong line of a text, or the first team that plays wrong times with its count, or None."""
    lines = text.split("\n")
    for at, line in enumerate(lines):
        if at == 132 or not can_stand(lines[:at], line):
            return at + 1
    if len(lines) < 3:
        return len(lines) + 1
    words = [word for line in lines[2:] for word in line.split(" ")[1:]]
    games = dict(tuple(map(int, word.split(":"))) for word in lines[1].split(" ")[1:])
    for team in teams_in_order(int(lines[0][len("people "):]), games):
        count = words.count(",".join(map(str, team)))
        if count != games[len(team)]:
            return team, count
    return None


def told_part(text):
    try:
        plan = Plan.read(text)
    except BadText as error:
        return error.line
    except WrongTimes as error:
        return error.team, error.count
    assert plan.text() == text, text
    return None


class Writing(unittest.TestCase):
    def test_plans(self):
        for people, games in PEOPLE:
            for many in (1, 4, 130):
                rounds = dealt_out(people, games, many)
                lines = Plan(people, games, rounds).text().split("\n")
                self.assertEqual(lines[0], f"people {people}")
                self.assertEqual(lines[1], "games " + " ".join(f"{size}:{games[size]}" for size in sorted(games)))
                self.assertEqual(len(lines), many + 2)
                for row, line in zip(rounds, lines[2:]):
                    teams = sorted(sorted(row), key=len)
                    self.assertEqual(line, " ".join(["round", *[",".join(map(str, team)) for team in teams]]))

    def test_team_sizes_and_teams_stand_in_order(self):
        plan = Plan(3, {3: 1, 1: 2}, [[(0, 1, 2), (2,), (0,), (0,), (1,)], [], [(2,), (1,)]])
        self.assertEqual(plan.text(), "people 3\ngames 1:2 3:1\nround 0 0 1 2 0,1,2\nround\nround 1 2")


class Reading(Raising, unittest.TestCase):
    def assert_line(self, line, text):
        self.assert_raises("BadText", [line], Plan.read, text)

    def test_what_is_written_is_read(self):
        for people, games in PEOPLE:
            for many in (1, 2, 5, 130):
                plan = some_plan(people, games, many)
                again = Plan.read(plan.text())
                self.assertEqual(again, plan)
                self.assertIs(type(again), Plan)
                self.assertEqual((again.text(), again.rounds), (plan.text(), plan.rounds))

    def test_right_texts(self):
        for text in TEXTS:
            self.assertIsNone(told_part(text))

    def test_no_strings(self):
        for value in [*[item for item in NO_LISTS if not isinstance(item, str)], [], ["people 1"], TEXTS[0].encode()]:
            self.assert_line(0, value)

    def test_missing_lines(self):
        self.assert_line(1, "")
        self.assert_line(1, "\n")
        self.assert_line(2, "people 4")
        self.assert_line(2, "people 4\n")
        self.assert_line(3, "people 4\ngames 2:1")
        self.assert_line(3, "people 4\ngames 2:1\n")
        self.assert_line(4, "people 4\ngames 2:1\nround\n")
        self.assert_line(6, TEXTS[0] + "\n")
        self.assert_line(1, "\n" + TEXTS[0])

    def test_130_rounds_and_more(self):
        for many in range(1, 131):
            self.assertEqual(len(Plan.read("people 1\ngames 1:1\nround 0" + "\nround" * (many - 1))), many)
        head = "people 4\ngames 2:1"
        for many in (131, 132, 133, 200, 1000):
            self.assert_line(133, head + "\nround" * many)
        self.assert_line(133, head + "\nround" * 130 + "\n")
        self.assert_line(133, head + "\nround" * 130 + "\nround 9,8")
        self.assert_line(132, head + "\nround" * 129 + "\nroun" + "\nround" * 10)
        self.assert_line(3, head + "\nround 3,4" + "\nround" * 200)
        self.assert_line(2, "people 4\ngames 5:1" + "\nround" * 200)
        self.assert_line(1, "people 11\ngames 5:1" + "\nround" * 200)
        self.assert_raises("WrongTimes", [(0, 1), 0], Plan.read, head + "\nround" * 130)

    def test_wrong_people(self):
        lines = [
            "people", "people ", "people 0", "people 11", "people 04", "people +4", "people -4", "people 4 ",
            "people  4", " people 4", "people 4 4", "people 2 2", "People 4", "people4", "people 4.0", "people x",
            "people 4,", "people " + "1" * 31, "people " + "1" * 19000, "sizes 4", "games 2:1", "people 4\r", "peopl 4",
            "people \u0664", "people \u00b2", "peoples 4", "people None", "people 4 None", "people 4 0", "people 100",
        ]
        for line in lines:
            self.assert_line(1, line)
            self.assert_line(1, line + "\ngames 2:1\nround")
        for people in range(1, 11):
            words = " ".join(str(person) for person in range(people))
            self.assertIsNone(told_part(f"people {people}\ngames 1:1\nround {words}"))

    def test_wrong_games(self):
        lines = [
            "games", "games ", "games 2", "games 2:0", "games 0:1", "games 2:4", "games 5:1", "games 02:1",
            "games 2:1 2:1", "games 3:1 2:1", "games 2:1 ", "games  2:1", "games 1:1 2:1 3:1", "Games 2:1", "sizes 2",
            "games 2:1:1", "games None:None", "round", "people 4",
        ]
        for line in lines:
            self.assert_line(2, "people 4\n" + line)
            self.assert_line(2, "people 4\n" + line + "\nround x")
        self.assert_line(2, "people 2\ngames 3:1\nround")
        self.assert_line(2, "people 3\ngames 2:1 4:1\nround")
        self.assert_line(2, "people 10\ngames 4:1\nround")
        self.assert_line(2, "people 10\ngames 1:2 3:1\nround")

    def test_wrong_rounds(self):
        lines = [
            "", "round ", "rounds", "roun", "Round", " round", "round  0", "round 0 ", "round 4", "round 1,0", "round 0,0",
            "round 0,1,2", "round 0,4", "round 00", "round 0,01", "round +1", "round -1", "round 0,", "round ,0",
            "round 0, 1", "round 0 ,1", "round 0,1 0", "round 1 0", "round 0,2 0,1", "round 0,1 1", "round x",
            "round 0:1", "round 0,1:1", "round 0;1", "round None", "round \u0661", "round 0,1\r", "round 10", "round 0.1",
            "people 4", "games 2:1", "round0", "round 0,1,", "round 0 1 0", "round 0 0 1 0", "round 0,1 0,2 0,1",
        ]
        for line in lines:
            self.assert_line(3, "people 4\ngames 1:1 2:1\n" + line)
            self.assert_line(3, "people 4\ngames 1:1 2:1\n" + line + "\nround x")
            self.assert_line(5, "people 4\ngames 1:1 2:1\nround\nround 0 2 2 0,1 0,1 0,1\n" + line)

    def test_wrong_times_behind_right_lines(self):
        head = "people 3\ngames 1:2 2:1\n"
        self.assert_raises("WrongTimes", [(0,), 0], Plan.read, head + "round")
        self.assert_raises("WrongTimes", [(0,), 3], Plan.read, head + "round 0 0 0")
        self.assert_raises("WrongTimes", [(2,), 1], Plan.read, head + "round 0 0 1 1 2 0,1\nround 0,2")
        self.assert_raises("WrongTimes", [(0, 2), 2], Plan.read, head + "round 0 0 1 1 2 2 0,1 0,2\nround 0,2")
        self.assert_line(4, head + "round 0 0 0\nround 0 0 0 ")

    def test_one_sign_more_less_or_another_one(self):
        for text in TEXTS:
            for at in range(len(text) + 1):
                changed = [text[:at] + text[at + 1 :]]
                for sign in SIGNS:
                    changed.append(text[:at] + sign + text[at:])
                    changed.append(text[:at] + sign + text[at + 1 :])
                for other in changed:
                    self.assertEqual(told_part(other), wrong_part(other), other)

    def test_lines_and_words_left_out_twice_and_turned_about(self):
        for text in TEXTS:
            parts = re.split("([ \n])", text)
            for at, width in product(range(len(parts)), (2, 4)):
                changed = [parts[:at] + parts[at + width :], parts[: at + width] + parts[at:]]
                changed.append(parts[:at] + parts[at : at + width + 1][::-1] + parts[at + width + 1 :])
                for other in ["".join(rows) for rows in changed]:
                    self.assertEqual(told_part(other), wrong_part(other), other)
            lines = text.split("\n")
            for at in range(len(lines)):
                changed = [lines[:at] + lines[at + 1 :], lines[: at + 1] + lines[at:], lines[at:] + lines[:at]]
                for other in ["\n".join(rows) for rows in changed]:
                    self.assertEqual(told_part(other), wrong_part(other), other)

    def test_class_method_of_an_object(self):
        plan = Plan(1, {1: 1}, [[(0,)]])
        self.assertEqual(plan.read(TEXTS[0]).text(), TEXTS[0])
        self.assertEqual(plan.text(), "people 1\ngames 1:1\nround 0")


if __name__ == "__main__":
    unittest.main()
