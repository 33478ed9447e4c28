"""What several tests share."""

import math
import re
from itertools import combinations

from allteams import errors
from allteams.plans import Plan

NO_INTEGERS = [True, False, None, "1", "", b"1", 1.0, [], [1], (), (1,), {}, {1: 1}, {1}, len]
NO_LISTS = [True, False, None, 0, 1, -1, 1.5, "", "1", "(1,)", b"\x01", {}, {1: 1}, {0: 1}, {1}, range(1), len]
NO_DICTS = [True, False, None, 0, 1, 2.5, "", "{1: 1}", b"", [], [(1, 1)], (), ((1, 1),), {1}, len]
NO_TUPLES = [True, False, None, 0, 1, 1.5, "", "01", b"\x00", [], [0], [1, 1], [0, 1], {}, {0: 1}, {0}, range(2), len]

ATTRIBUTES = {
    "BadSizes": ("value",),
    "BadPeople": ("value",),
    "BadGames": ("value",),
    "TooMany": ("count",),
    "BadPerson": ("value",),
    "BadTeam": ("value",),
    "BadKind": ("value",),
    "BadRounds": ("value",),
    "BadRound": ("value",),
    "BadNumber": ("value",),
    "BadIndex": ("value",),
    "BadClasses": ("value",),
    "BadText": ("line",),
    "WrongTimes": ("team", "count"),
    "NotAdding": ("kind", "told", "due"),
    "BadShares": ("column",),
    "Alone": ("index",),
    "WrongSum": ("size", "told", "due"),
    "NotFull": ("count", "team"),
    "NoGrowth": ("wanted", "there"),
    "BadPairs": ("at",),
    "ShortRound": ("at", "told", "least"),
    "Crowded": ("paper",),
    "BadCost": ("value",),
    "BadWish": ("line",),
    "UnlikePeople": (),
    "NothingToUndo": (),
}

# Each row: wrong sizes.
WRONG_SIZES = [
    *NO_LISTS, [], (), [0], [1, 0], [-1], [2, -1], [11], [5, 6], [10, 1], [1] * 11, [10**29], [1, True], [True],
    [False], [None], ["2"], [2.0], [[2]], [(2,)], [{}], [2, None], (3, "1"),
]

# Each row: sizes, and games that are wrong for them.
WRONG_GAMES = [
    *[([4], value) for value in NO_DICTS],
    ([4], {}), ([4], {1: 1, 2: 1, 3: 1}), ([4], {0: 1}), ([4], {-1: 1}), ([6], {5: 1}), ([3], {4: 1}), ([2], {3: 1}),
    ([1], {2: 1}), ([1, 1], {2: 1, 3: 1}), ([4], {2: 0}), ([4], {2: 4}), ([4], {2: -1}), ([4], {2: 1, 3: 0}),
    ([4], {2: 10**29}), ([4], {10**29: 1}), ([4], {True: 1}), ([4], {2: True}), ([4], {1: True}), ([4], {False: 1}),
    ([4], {None: 1}), ([4], {2: None}), ([4], {"2": 1}), ([4], {2: "1"}), ([4], {2.0: 1}), ([4], {2: 1.0}),
    ([4], {(2,): 1}), ([4], {2: [1]}), ([4], {2: (1,)}), ([4], {2: {}}), ([4], {2: 1, "3": 1}),
]

# Each row: sizes and games with more than 130 teams, and their number.
TOO_MANY = [
    ([10], {4: 1}, 210), ([5, 5], {3: 2}, 240), ([9], {4: 1, 1: 1}, 135), ([8], {3: 2, 2: 1}, 140),
    ([8], {2: 1, 3: 2}, 140), ([1] * 10, {4: 3, 3: 3}, 990), ([10], {2: 3}, 135), ([10], {1: 2, 3: 1}, 140),
]

WRONG_PEOPLE = [*NO_INTEGERS, 0, -1, 11, 10**29, -(10**29), [4], (4,), "4", 4.0]

SETTINGS = [
    ([1], {1: 1}), ([1], {1: 3}), ([4], {2: 1}), ([2, 2], {3: 1}), ([2, 2], {2: 1}), ([1, 1, 1], {2: 2, 1: 3}),
    ([2, 3], {2: 1, 3: 2}), ([3, 2, 1], {4: 1, 1: 2}), ([1, 4, 1], {3: 3}), ([10], {3: 1, 1: 1}),
    ([1] * 10, {3: 1, 1: 1}), ([5, 5], {2: 2, 1: 3}), ([4, 1, 4], {4: 1}), ([1, 2, 3, 3], {3: 1, 2: 1}),
]

# Each row: a number of people, and games for them.
PEOPLE = [
    (1, {1: 1}), (1, {1: 3}), (2, {2: 2, 1: 1}), (3, {2: 3}), (3, {3: 2}), (4, {2: 1}), (4, {1: 2, 3: 1}), (4, {4: 3}),
    (5, {2: 2}), (5, {4: 1, 2: 3}), (6, {3: 1}), (6, {3: 2, 2: 1}), (7, {3: 1, 4: 1}), (8, {1: 3, 2: 3}), (9, {4: 1}),
    (10, {3: 1, 1: 1}), (10, {2: 2}),
]

# Each row: a number of people, and a value that does not part them in classes.
WRONG_CLASSES = [
    *[(3, value) for value in NO_LISTS],
    *[(3, [[0, 1, 2], value]) for value in NO_LISTS],
    *[(3, [[0, 1], [value]]) for value in NO_INTEGERS],
    *[(1, [value]) for value in NO_LISTS],
    *[(1, [[value]]) for value in NO_INTEGERS],
    (3, []), (3, ()), (3, [[]]), (3, [[], [0, 1, 2]]), (3, [[0, 1, 2], ()]), (3, [[0, 1], [], [2]]), (3, [[0, 1]]),
    (3, [[0], [2]]), (3, [[1, 2]]), (3, [[0, 1, 2, 3]]), (3, [[0, 1, 2], [3]]), (3, [[-1, 0, 1, 2]]), (3, [[0, 1, 3]]),
    (3, [[-1, 0, 1]]), (3, [[0, 1, 1]]), (3, [[0, 1, 2, 2]]), (3, [[0, 1], [1, 2]]), (3, [[0, 1], [2], [0]]),
    (3, [[0, 1, 2], [0, 1, 2]]), (3, [[0, 1, 10**29]]), (3, [0, 1, 2]), (3, [[[0, 1, 2]]]), (3, [[[0], [1], [2]]]),
    (3, [[0, 1, True]]), (3, [[False, 1, 2]]), (3, [[0, 1, 2.0]]), (3, ["012"]), (3, [{0: 1, 1: 1, 2: 1}]), (3, "012"),
    (2, [{0, 1}]), (2, [range(2)]), (2, {0: [0], 1: [1]}), (2, [b"\x00\x01"]), (1, [[0], [0]]), (1, [[0, 0]]),
]


def teams_by_kind(sizes, games):
    """All teams, found one by one, under their kinds; the kinds stand in no special order."""
    classes = [index for index, size in enumerate(sizes) for _ in range(size)]
    found = {}
    for size in games:
        for team in combinations(range(len(classes)), size):
            kind = tuple(sum(classes[person] == index for person in team) for index in range(len(sizes)))
            found.setdefault(kind, []).append(team)
    return found


def kinds_in_order(sizes, games):
    return sorted(teams_by_kind(sizes, games), key=lambda kind: (sum(kind), kind))


def all_settings():
    """All numbers of people with all games, some of which have too many teams."""
    for people in range(1, 11):
        most = min(4, people)
        for one in range(1, most + 1):
            for times in (1, 2, 3):
                yield people, {one: times}
                for other in range(one + 1, most + 1):
                    for more in (1, 2, 3):
                        yield people, {other: more, one: times}


def total(people, games):
    return sum(times * math.comb(people, size) for size, times in games.items())


def teams_in_order(people, games):
    return [team for size in sorted(games) for team in combinations(range(people), size)]


def dealt_out(people, games, rounds):
    """The rounds of a plan: each playing of each team, in no special order, in one of so many rounds."""
    playings = [team for team in teams_in_order(people, games) for _ in range(games[len(team)])]
    dealt = [[] for _ in range(rounds)]
    for turn, team in enumerate(reversed(playings)):
        dealt[(turn * turn + 3 * turn) // 2 % rounds].append(team)
    return dealt


def some_plan(people, games, rounds):
    return Plan(people, games, dealt_out(people, games, rounds))


def partings(people):
    """All ways to part so many people in classes, with the classes and their people in no special order."""
    if people == 0:
        return [[]]
    found = []
    for classes in partings(people - 1):
        found.append([[people - 1], *classes])
        for index in range(len(classes)):
            found.append([*classes[:index], [people - 1, *classes[index]], *classes[index + 1 :]])
    return found


def numbers_without_order(first, modulus=2**31):
    """Integers that follow no plain rule, the same ones each time, without an end."""
    number = first
    while True:
        number = (1103515245 * number + 12345) % modulus
        yield number >> 8


def games_can_stand(people, line):
    """Whether a line of a text tells games for so many people, judged without the package's own ways."""
    if not re.fullmatch("games [1-4]:[1-3]( [1-4]:[1-3])?", line):
        return False
    games = [tuple(map(int, word.split(":"))) for word in line.split(" ")[1:]]
    sizes = [size for size, _ in games]
    return sizes == sorted(set(sizes)) and max(sizes) <= people and total(people, dict(games)) <= 130


class Raising:
    """For a TestCase: whether a call raises just a certain error with the very values that it tells."""

    def assert_raises(self, error, values, call, *passed):
        with self.assertRaises(errors.TeamError, msg=f"{call} {passed!r}") as caught:
            call(*passed)
        self.assertEqual(type(caught.exception).__name__, error, f"{call} {passed!r}")
        told = [getattr(caught.exception, name) for name in ATTRIBUTES[error]]
        self.assertEqual([repr(value) for value in told], [repr(value) for value in values], f"{call} {passed!r}")
        return caught.exception

    def assert_setting_errors(self, call, *rest):
        """The errors of point 10, in their order, even if all other arguments are wrong, too."""
        for wrong in WRONG_SIZES:
            self.assert_raises("BadSizes", [wrong], call, wrong, {2: 1}, *rest)
            self.assert_raises("BadSizes", [wrong], call, wrong, None, *rest)
        for sizes, wrong in WRONG_GAMES:
            self.assert_raises("BadGames", [wrong], call, sizes, wrong, *rest)
            self.assert_raises("BadGames", [wrong], call, tuple(sizes), wrong, *rest)
        for sizes, games, count in TOO_MANY:
            self.assert_raises("TooMany", [count], call, sizes, games, *rest)

    def assert_people_errors(self, call, *rest):
        """The same for a number of people in the place of the sizes."""
        for wrong in WRONG_PEOPLE:
            self.assert_raises("BadPeople", [wrong], call, wrong, {2: 1}, *rest)
            self.assert_raises("BadPeople", [wrong], call, wrong, None, *rest)
        for sizes, wrong in WRONG_GAMES:
            self.assert_raises("BadGames", [wrong], call, sum(sizes), wrong, *rest)
        for sizes, games, count in TOO_MANY:
            self.assert_raises("TooMany", [count], call, sum(sizes), games, *rest)
