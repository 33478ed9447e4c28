"""What tables and books must be, judged without the package: by trying all tables, and from the teams themselves."""

import math
import random
import re
from itertools import combinations, product

from tests.support import games_can_stand, kinds_in_order, teams_by_kind

# Each row: sizes, games and numbers for which all tables can be tried.
SMALL = [
    ([2, 2], {2: 1}, [{2: 2}, {2: 2}, {2: 2}]), ([2, 2], {2: 1}, [{2: 3}, {}, {2: 2}, {2: 1}]),
    ([1, 2], {2: 2}, [{2: 1}, {2: 4}, {2: 1}]), ([1, 1, 1], {1: 1, 2: 1}, [{1: 1, 2: 2}, {1: 2}, {2: 1}]),
    ([3], {2: 1}, [{2: 1}, {2: 2}]), ([2, 1], {1: 2, 2: 1}, [{1: 3, 2: 1}, {1: 3, 2: 2}]),
    ([1], {1: 3}, [{1: 2}, {1: 0}, {1: 1}]), ([2, 2], {3: 1}, [{3: 1}, {3: 1}, {3: 2}]),
    ([1, 3], {2: 1}, [{2: 1}, {2: 2}, {2: 3}, {2: 0}]), ([1, 1, 2], {3: 1, 1: 1}, [{3: 2, 1: 1}, {1: 2, 3: 2}, {1: 1}]),
    ([2, 2], {4: 2, 1: 1}, [{4: 1, 1: 2}, {4: 1}, {1: 2}]), ([1, 1, 1, 1], {2: 1}, [{2: 2}, {2: 1}, {2: 3}]),
]

# Each row: sizes and games of more people.
LARGE = [
    ([10], {3: 1, 1: 1}), ([1] * 10, {3: 1, 1: 1}), ([5, 5], {2: 2}), ([3, 2, 4], {4: 1}), ([2, 2, 2], {2: 3, 3: 1}),
    ([1] * 7, {4: 1, 3: 1}), ([4, 1, 1, 2], {3: 2}), ([6, 3], {2: 1, 1: 3}), ([1] * 10, {2: 1}),
]


def dues(sizes, games):
    """The due numbers of all kinds, in order."""
    teams = teams_by_kind(sizes, games)
    return {kind: games[sum(kind)] * len(teams[kind]) for kind in kinds_in_order(sizes, games)}


def some_numbers(sizes, games, many, chance):
    """Numbers with the right sums for so many rounds."""
    numbers = [{} for _ in range(many)]
    for size, times in games.items():
        for _ in range(times * math.comb(sum(sizes), size)):
            row = chance.choice(numbers)
            row[size] = row.get(size, 0) + 1
    return numbers


def some_barred(sizes, games, many, chance, share):
    """About this share of all entries, in no special order, some of them twice."""
    entries = [(at, kind) for at in range(many) for kind in kinds_in_order(sizes, games)]
    found = [entry for entry in entries if chance.random() < share]
    chance.shuffle(found)
    return found + found[:2]


def splits(due, rooms):
    """All ways to give a due number to rounds with so much room each."""
    if not rooms:
        return [()] if due == 0 else []
    return [(few, *rest) for few in range(min(due, rooms[0]) + 1) for rest in splits(due - few, rooms[1:])]


def all_fitting(sizes, games, numbers, barred):
    """The rounds of all tables that fit, with the numbers above 0 alone."""
    shut = set(barred)
    found = [([{} for _ in numbers], [{size: row.get(size, 0) for size in games} for row in numbers])]
    for kind, due in dues(sizes, games).items():
        further = []
        for rounds, rooms in found:
            free = [0 if (at, kind) in shut else row[sum(kind)] for at, row in enumerate(rooms)]
            for split in splits(due, free):
                told = [{**row, kind: few} if few else row for row, few in zip(rounds, split)]
                left = [{**row, sum(kind): row[sum(kind)] - few} for row, few in zip(rooms, split)]
                further.append((told, left))
        found = further
    return [rounds for rounds, _ in found]


def number_in(rounds, at, kind):
    return rounds[at].get(kind, 0)


def crowded(sizes, games, numbers, barred, kinds):
    """Whether different kinds in order are crowded."""
    shut = set(barred)
    if not kinds or len({sum(kind) for kind in kinds}) > 1:
        return False
    there = [at for at in range(len(numbers)) if any((at, kind) not in shut for kind in kinds)]
    due = dues(sizes, games)
    return sum(due[kind] for kind in kinds) > sum(numbers[at].get(sum(kinds[0]), 0) for at in there)


def some_fit(sizes, games, numbers, barred):
    """Whether some table fits: whether no kinds at all are crowded."""
    kinds = kinds_in_order(sizes, games)
    lists = [[kind for kind, there in zip(kinds, told) if there] for told in product((0, 1), repeat=len(kinds))]
    return not any(crowded(sizes, games, numbers, barred, some) for some in lists)


def table_fits(table, sizes, games, numbers, barred):
    """Whether a table fits, whatever way it was found."""
    right = table.sizes == tuple(sizes) and table.games == games and len(table) == len(numbers)
    sums = {kind: sum(table.number(at, kind) for at in range(len(table))) for kind in kinds_in_order(sizes, games)}
    teams = [table.teams(at, size) == row.get(size, 0) for at, row in enumerate(numbers) for size in games]
    return right and sums == dues(sizes, games) and all(teams) and not any(table.number(*entry) for entry in barred)


def cost_of(rounds, costs):
    return sum(number * costs.get((at, kind), 0) for at, row in enumerate(rounds) for kind, number in row.items())


def classes_of(sizes):
    first = [sum(sizes[:index]) for index in range(len(sizes))]
    return [list(range(start, start + size)) for start, size in zip(first, sizes)]


class Book:
    """A book of wishes, read by patterns; wrong is the number of its first wrong line or None."""

    def __init__(self, text):
        self.lines = text.split("\n")
        self.names, self.sizes, self.games, self.numbers, self.clauses = [], [], {}, [], []
        self.wrong = next((at + 1 for at, line in enumerate([*self.lines, ""]) if not self.takes(at, line)), None)
        if self.wrong == len(self.lines) + 1 and self.numbers:
            self.wrong = None
        self.wishes = [clause for clause in self.clauses if clause[0] == "each"]

    def takes(self, at, line):
        """Whether a line can stand behind those before; if it can, it is read."""
        if at == 0:
            return self.takes_classes(line)
        if at == 1:
            if games_can_stand(sum(self.sizes), line):
                self.games = dict(tuple(map(int, word.split(":"))) for word in line.split(" ")[1:])
            return bool(self.games)
        return self.takes_rounds(line) or self.takes_clause(line)

    def takes_classes(self, line):
        if not re.fullmatch("classes( [a-z]{1,8} ([1-9]|10))+", line):
            return False
        words = line.split(" ")[1:]
        self.names, self.sizes = words[::2], [int(word) for word in words[1::2]]
        return sum(self.sizes) <= 10 and len(set(self.names)) == len(self.names)

    def takes_rounds(self, line):
        if self.clauses or not re.fullmatch("rounds [1-9][0-9]{0,29}( [1-4]:(0|[1-9][0-9]{0,29}))+", line):
            return False
        count, *pairs = re.findall("[0-9:]+", line)
        told = [tuple(map(int, pair.split(":"))) for pair in pairs]
        sizes = [size for size, _ in told]
        if sizes != sorted(set(sizes)) or not set(sizes) <= set(self.games) or len(self.numbers) + int(count) > 130:
            return False
        self.numbers += [dict(told) for _ in range(int(count))]
        return True

    def takes_clause(self, line):
        words = "(each [0-9]-[0-9]|cost (0|-?[1-9][0-9]?)) [a-z]+ in (0|[1-9][0-9]*)-(0|[1-9][0-9]*)( of [1-4])?"
        if not re.fullmatch(words, line):
            return False
        first, told, name, _, span, *of = line.split(" ")
        low, high = map(int, span.split("-"))
        size = int(of[1]) if of else None
        if name not in self.names or not low <= high < len(self.numbers) or (of and size not in self.games):
            return False
        told = tuple(map(int, told.split("-"))) if first == "each" else int(told)
        if len(self.clauses) == 60 or first == "each" and told[0] > told[1]:
            return False
        self.clauses.append((first, told, self.names.index(name), low, high, size))
        return True

    def holds(self, clause, at, team):
        return clause[3] <= at <= clause[4] and clause[5] in (None, len(team))

    def inside(self, clause, team):
        """How many people of the class of a clause are in a team."""
        return len(set(classes_of(self.sizes)[clause[2]]) & set(team))

    def breaks(self, wish, at, team):
        return self.holds(wish, at, team) and not wish[1][0] <= self.inside(wish, team) <= wish[1][1]

    def costs_of(self, at, team):
        charges = [clause for clause in self.clauses if clause[0] == "cost" and self.holds(clause, at, team)]
        return sum(charge[1] * self.inside(charge, team) for charge in charges)

    def entries(self):
        """All entries in ascending order, each with a team of its kind."""
        found = teams_by_kind(self.sizes, self.games)
        return [((at, kind), found[kind][-1]) for at in range(len(self.numbers)) for kind in sorted(found)]

    def barred(self, which=None):
        wishes = self.wishes if which is None else [self.wishes[number] for number in which]
        return [
            (at, kind) for (at, kind), team in self.entries() if any(self.breaks(wish, at, team) for wish in wishes)
        ]

    def costs(self):
        found = {entry: self.costs_of(entry[0], team) for entry, team in self.entries()}
        return {entry: cost for entry, cost in found.items() if cost}

    def fitting(self, which=None):
        """All tables of plans that meet the book, or meet those of the wishes."""
        return all_fitting(self.sizes, self.games, self.numbers, self.barred(which))

    def can_meet(self, which):
        return some_fit(self.sizes, self.games, self.numbers, self.barred(which))


def some_wish(book, chance):
    """A line with a wish for a book, most often for few rounds."""
    low = chance.choice((0, 0, 0, 1, 1, 2))
    high = chance.choice((low, low, low + 1, 2, 4))
    first = chance.randrange(len(book.numbers))
    last = chance.choice((first, first, len(book.numbers) - 1))
    behind = chance.choice(("", "", *(f" of {size}" for size in book.games)))
    return f"each {low}-{max(low, high)} {chance.choice(book.names)} in {first}-{last}{behind}"


def some_charge(book, chance):
    """A line with a cost for a book."""
    first, last = sorted(chance.choices(range(len(book.numbers)), k=2))
    behind = chance.choice(("", "", *(f" of {size}" for size in book.games)))
    return f"cost {chance.randint(-99, 99)} {chance.choice(book.names)} in {first}-{last}{behind}"


def head_of(sizes, games, numbers):
    """The lines of a book without wishes and costs."""
    lines = [" ".join(["classes", *(f"{'abcdefghij'[at]} {size}" for at, size in enumerate(sizes))])]
    lines.append(" ".join(["games", *(f"{size}:{games[size]}" for size in sorted(games))]))
    for row in numbers:
        told = row or {min(games): 0}
        lines.append(" ".join(["rounds 1", *(f"{size}:{told[size]}" for size in sorted(told))]))
    return "\n".join(lines)


def some_books(many, charges=0):
    """Texts of small books with wishes and costs in any order, many of each size."""
    for place, (sizes, games, numbers) in enumerate(SMALL):
        head = head_of(sizes, games, numbers)
        book = Book(head)
        for turn in range(many):
            chance = random.Random(f"{place} {turn}")
            lines = [some_wish(book, chance) for _ in range(chance.randint(0, 5))]
            lines += [some_charge(book, chance) for _ in range(chance.randint(0, charges))]
            chance.shuffle(lines)
            yield "\n".join([head, *lines])


def all_lists(items):
    """All lists of these items that keep their order."""
    return [list(some) for many in range(len(items) + 1) for some in combinations(items, many)]
