"""Tables, which tell how many teams of each kind play in each round."""

from allteams.checks import is_integer, is_list, is_order, is_within
from allteams.errors import BadClasses, BadIndex, BadKind, BadNumber, BadRound, BadRounds, BadText
from allteams.kinds import MOST_ROUNDS, all_kinds, are_sizes, check_setting, due_of, is_kind_of
from allteams.texts import comma_word, games_in, games_line, integer_in, line_at, lines_of, rounds_in, words_behind


class Table:
    """How many teams of each kind play in each round; it never changes."""

    def __init__(self, sizes, games, rounds):
        check_setting(sizes, games)
        check_rounds(sizes, games, rounds)
        self.parts = tuple(sizes)
        self.times = {size: games[size] for size in sorted(games)}
        self.kinds = all_kinds(sizes, games)
        # Without numbers of 0, rows are equal exactly if they tell the same.
        self.rows = [{kind: told[kind] for kind in self.kinds if told.get(kind, 0) > 0} for told in rounds]

    @property
    def sizes(self):
        """The tuple of the sizes."""
        return self.parts

    @property
    def games(self):
        """The dict of the games."""
        return dict(self.times)

    @property
    def rounds(self):
        """The list of a dict for each round, from the kinds with numbers above 0 to these."""
        return [{kind: row[kind] for kind in row} for row in self.rows]

    def __len__(self):
        return len(self.rows)

    def __eq__(self, other):
        return (
            isinstance(other, Table)
            and self.parts == other.parts
            and self.times == other.times
            and self.rows == other.rows
        )

    def row_at(self, at):
        """Return the dict of a round."""
        if not is_within(at, 0, len(self.rows) - 1):
            raise BadRound(at)
        return self.rows[at]

    def check_index(self, index):
        """Raise BadIndex unless this is the index of a class."""
        if not is_within(index, 0, len(self.parts) - 1):
            raise BadIndex(index)

    def number(self, at, kind):
        """Return the number of a kind in a round."""
        row = self.row_at(at)
        if not is_kind_of(self.parts, self.times, kind):
            raise BadKind(kind)
        return row.get(kind, 0)

    def teams(self, at, size=None):
        """Return the number of teams in a round, those of a team size if one is passed."""
        row = self.row_at(at)
        if size is None:
            return sum([row[kind] for kind in row])
        if not is_integer(size) or size not in self.times:
            raise BadNumber(size)
        return sum([row[kind] for kind in row if sum(kind) == size])

    def places(self, at, index):
        """Return the number of places that the people of a class have in a round."""
        row = self.row_at(at)
        self.check_index(index)
        return sum([row[kind] * kind[index] for kind in row])

    def sums(self):
        """Return the dict from all kinds to the sums of their numbers over all rounds."""
        return {kind: sum([row.get(kind, 0) for row in self.rows]) for kind in self.kinds}

    def fault(self):
        """Return None if the table adds up, or the first kind that does not, with what is told and what is due."""
        told = self.sums()
        for kind in self.kinds:
            due = due_of(self.parts, self.times, kind)
            if told[kind] != due:
                return (kind, told[kind], due)
        return None

    def merged(self, one, other):
        """Return the table in which two classes are one."""
        self.check_index(one)
        self.check_index(other)
        if one == other:
            raise BadIndex(other)
        low = min(one, other)
        high = max(one, other)
        rounds = [merged_row(row, low, high) for row in self.rows]
        return Table(joined(self.parts, low, high), self.times, rounds)

    def moved(self, order):
        """Return the table in which the class order[i] stands at the index i."""
        if not is_order(order, len(self.parts)):
            raise BadClasses(order)
        rounds = [{ordered(kind, order): row[kind] for kind in row} for row in self.rows]
        return Table(ordered(self.parts, order), self.times, rounds)

    def text(self):
        """Return the text of the table."""
        above = [sizes_line(self.parts), games_line(self.times)]
        return "\n".join(above + [round_line(row) for row in self.rows])

    @classmethod
    def read(cls, text):
        """Return the table with a text."""
        lines = lines_of(text)
        sizes = sizes_in(line_at(lines, 0))
        if sizes is None:
            raise BadText(1)
        games = games_in(line_at(lines, 1), sum(sizes))
        if games is None:
            raise BadText(2)
        words = {comma_word(kind): kind for kind in all_kinds(sizes, games)}
        return cls(sizes, games, rounds_in(lines, row_in, words))


def has_place(key):
    """Tell whether a key of any kind can be compared with tuples of integers."""
    return isinstance(key, tuple) and all([isinstance(part, int) for part in key])


def keys_in_order(told):
    """Return the keys of a dict in ascending order, those that cannot be compared behind all others."""
    return sorted([key for key in told if has_place(key)]) + [key for key in told if not has_place(key)]


def check_rounds(sizes, games, rounds):
    """Raise an error unless these are the rounds of a table."""
    if not is_list(rounds) or not is_within(len(rounds), 1, MOST_ROUNDS):
        raise BadRounds(rounds)
    if not all([isinstance(told, dict) for told in rounds]):
        raise BadRounds(rounds)
    for told in rounds:
        for key in keys_in_order(told):
            if not is_kind_of(sizes, games, key):
                raise BadKind(key)
            if not is_integer(told[key]) or told[key] < 0:
                raise BadNumber(told[key])


def joined(numbers, low, high):
    """Return numbers for each class as numbers for the classes after two of them are merged."""
    return numbers[:low] + (numbers[low] + numbers[high],) + numbers[low + 1 : high] + numbers[high + 1 :]


def merged_row(row, low, high):
    """Return the numbers of a round after two classes are merged."""
    merged = {}
    for kind in row:
        place = joined(kind, low, high)
        merged[place] = merged.get(place, 0) + row[kind]
    return merged


def ordered(numbers, order):
    """Return numbers for each class in another order of the classes."""
    return tuple([numbers[index] for index in order])


def sizes_line(sizes):
    """Return the line of a text that tells sizes."""
    return " ".join(["sizes"] + [str(size) for size in sizes])


def sizes_in(line):
    """Return the sizes that a line tells, or None if it tells none."""
    words = words_behind("sizes", line)
    if words is None:
        return None
    sizes = [integer_in(word) for word in words]
    if not are_sizes(sizes):
        return None
    return sizes


def round_line(row):
    """Return the line of a text that tells a round, whose kinds stand in order."""
    return " ".join(["round"] + [f"{comma_word(kind)}:{row[kind]}" for kind in row])


def row_in(line, kinds):
    """Return the numbers that a line tells, or None if it tells none; kinds is a dict from all words to kinds."""
    words = words_behind("round", line)
    if words is None:
        return None
    told = {}
    for word in words:
        name, colon, digits = word.partition(":")
        number = integer_in(digits)
        if name not in kinds or number is None or number == 0:
            return None
        told[kinds[name]] = number
    row = {kind: told[kind] for kind in kinds.values() if kind in told}
    # A wrong order or a kind told twice shows when the round is written again.
    if round_line(row) != line:
        return None
    return row
