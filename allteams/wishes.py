"""Books of wishes about the kinds in the rounds, and the cheapest plans that meet them."""

from allteams.checks import is_within
from allteams.clashes import clash, frame_for
from allteams.clauses import Charge, Wish, classes_in, clause_in, repeated_in
from allteams.errors import BadClasses, BadNumber, BadRounds, BadWish, Crowded
from allteams.evens import check_sums
from allteams.fits import cheapest_in, closed_by, is_possible
from allteams.kinds import MOST_IN_TEAM, MOST_ROUNDS, all_kinds, team_kind
from allteams.taking import plan_of
from allteams.texts import LINES_ABOVE, games_in, line_at

MOST_CLAUSES = 60


class Wishes:
    """A book of wishes; it never changes."""

    def __init__(self, text):
        if not isinstance(text, str):
            raise BadWish(0)
        self.written = text.split("\n")
        names, sizes = classes_at_top(self.written)
        games = games_in(line_at(self.written, 1), sum(sizes))
        if games is None:
            raise BadWish(2)
        numbers, clauses = rounds_and_clauses(self.written, names, games)
        check_sums(sum(sizes), games, numbers)
        self.titles = tuple(names)
        self.parts = tuple(sizes)
        self.times = games
        self.rows = numbers
        self.above = len(self.written) - len(clauses)
        self.asked = [line for line in self.written[self.above :] if line.startswith("each ")]
        self.wishes = [clause for clause in clauses if isinstance(clause, Wish)]
        self.charges = [clause for clause in clauses if isinstance(clause, Charge)]
        # Entries are ordered as tuples, so the kinds are, too.
        self.kinds = sorted(all_kinds(sizes, games))

    @property
    def names(self):
        """The tuple of the names of the classes."""
        return self.titles

    @property
    def sizes(self):
        """The tuple of the sizes of the classes."""
        return self.parts

    @property
    def games(self):
        """The dict of the games."""
        return dict(self.times)

    @property
    def numbers(self):
        """The list of a dict for each round, from the team sizes that its line tells to the numbers of teams."""
        return [dict(row) for row in self.rows]

    @property
    def lines(self):
        """The list of the lines that are wishes."""
        return list(self.asked)

    def __len__(self):
        return len(self.wishes)

    def barred(self, which=None):
        """Return the ascending list of the entries that some wish bars, or some wish with one of these numbers."""
        wishes = self.wishes
        if which is not None:
            wishes = self.chosen(which)
        entries = []
        for at in range(len(self.rows)):
            limits = {size: limits_at(wishes, at, size, len(self.parts)) for size in self.times}
            entries.extend([(at, kind) for kind in self.kinds if not is_inside(kind, limits[sum(kind)])])
        return entries

    def chosen(self, which):
        """Return the wishes with these numbers."""
        for value in which:
            if not is_within(value, 0, len(self.wishes) - 1):
                raise BadNumber(value)
        return [self.wishes[number] for number in which]

    def costs(self):
        """Return the dict from all entries with a cost other than 0 to their costs."""
        entries = [(at, kind) for at in range(len(self.rows)) for kind in self.kinds]
        costs = {(at, kind): cost_at(self.charges, at, kind) for at, kind in entries}
        return {entry: costs[entry] for entry in entries if costs[entry] != 0}

    def broken(self, plan):
        """Return the ascending list of the numbers of the wishes that a plan breaks."""
        entries = self.entries_of(plan)
        return [
            number
            for number, wish in enumerate(self.wishes)
            if any([breaks(wish, at, kind) for at, kind in entries])
        ]

    def cost_of(self, plan):
        """Return the sum of the costs of all people in all teams of a plan."""
        entries = self.entries_of(plan)
        return sum([cost_at(self.charges, at, kind) for at, kind in entries])

    def entries_of(self, plan):
        """Return the round and the kind of each team of a plan."""
        if plan.people != sum(self.parts):
            raise BadClasses(plan.people)
        if len(plan) != len(self.rows):
            raise BadRounds(len(plan))
        return [(at, team_kind(self.parts, team)) for at, teams in enumerate(plan.rounds) for team in teams]


def classes_at_top(lines):
    """Return the names and the sizes of the classes that the first line tells."""
    told = classes_in(line_at(lines, 0))
    if told is None:
        raise BadWish(1)
    return told


def rounds_and_clauses(lines, names, games):
    """Return the numbers of teams in all rounds, and all wishes and charges in order."""
    places = {name: index for index, name in enumerate(names)}
    numbers = []
    clauses = []
    for at in range(LINES_ABOVE, max(len(lines), LINES_ABOVE + 1)):
        line = line_at(lines, at)
        repeated = repeated_in(line, games)
        clause = clause_in(line, places, games, len(numbers))
        if repeated is not None and len(clauses) == 0 and len(numbers) + repeated[0] <= MOST_ROUNDS:
            numbers.extend([dict(repeated[1]) for turn in range(repeated[0])])
        elif clause is not None and len(clauses) < MOST_CLAUSES:
            clauses.append(clause)
        else:
            raise BadWish(at + 1)
    return (numbers, clauses)


def limits_at(wishes, at, size, many):
    """Return the least and the greatest number for each class that wishes allow in teams of a size in a round."""
    limits = [(0, MOST_IN_TEAM)] * many
    for wish in wishes:
        if wish.scope.covers(at, size):
            low, high = limits[wish.scope.index]
            limits[wish.scope.index] = (max(low, wish.low), min(high, wish.high))
    return limits


def is_inside(kind, limits):
    """Tell whether a kind has as many people of each class as the limits allow."""
    return all([low <= few <= high for few, (low, high) in zip(kind, limits)])


def breaks(wish, at, kind):
    """Tell whether a team of a kind in a round breaks a wish."""
    return wish.scope.covers(at, sum(kind)) and not wish.low <= kind[wish.scope.index] <= wish.high


def cost_at(charges, at, kind):
    """Return what the people of a team of a kind in a round cost by all charges."""
    covering = [charge for charge in charges if charge.scope.covers(at, sum(kind))]
    return sum([charge.amount * kind[charge.scope.index] for charge in covering])


def meeting_plan(wishes):
    """Return the least cost of a plan that meets a book, and such a plan that is even for the people of each class."""
    frame = frame_for(wishes)
    closed = closed_by(wishes.barred())
    if not is_possible(frame, closed, {}):
        raise Crowded(clash(wishes))
    cost, table, prices = cheapest_in(frame, closed, wishes.costs())
    return (cost, plan_of(table))
