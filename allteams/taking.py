"""One person after another taken out of the classes of a table, until it tells a plan."""

from allteams.errors import Alone, NotAdding
from allteams.kinds import all_kinds
from allteams.plans import Plan
from allteams.shares import dealt
from allteams.tables import Table


def check_adding(table):
    """Raise NotAdding unless the table adds up."""
    fault = table.fault()
    if fault is not None:
        kind, told, due = fault
        raise NotAdding(kind, told, due)


def taken_out(table, index):
    """Return a table in which a class is parted in one person, at its index, and the others, right behind."""
    table.check_index(index)
    sizes = table.sizes
    if sizes[index] == 1:
        raise Alone(index)
    check_adding(table)
    rounds = table.rounds
    kinds = all_kinds(sizes, table.games)
    # Divided by the size of the class, these are the numbers of teams with the one person, were all people alike.
    shares = [[row.get(kind, 0) * kind[index] for kind in kinds] for row in rounds]
    with_one = [dict(zip(kinds, numbers)) for numbers in dealt(shares, sizes[index])]
    parted = [parted_row(row, ones, index) for row, ones in zip(rounds, with_one)]
    return Table(replaced(sizes, index, (1, sizes[index] - 1)), table.games, parted)


def replaced(numbers, index, parts):
    """Return numbers for each class with others in the place of one of them."""
    return numbers[:index] + parts + numbers[index + 1 :]


def parted_row(row, ones, index):
    """Return the numbers of a round, where ones tells for each kind how many of its teams the one person is in."""
    parted = {}
    for kind in row:
        few = kind[index]
        one = ones[kind]
        # Numbers of 0 are left out: what they belong to need not be a kind.
        if one > 0:
            parted[replaced(kind, index, (1, few - 1))] = one
        if row[kind] > one:
            parted[replaced(kind, index, (0, few))] = row[kind] - one
    return parted


def steps(table):
    """Yield the table, and then the last one with one person more taken out, until each class is of one person."""
    check_adding(table)
    last = table
    yield last
    while max(last.sizes) > 1:
        last = taken_out(last, first_of_many(last.sizes))
        yield last


def first_of_many(sizes):
    """Return the index of the first class that has two people or more."""
    return min([index for index, size in enumerate(sizes) if size > 1])


def plan_of(table):
    """Return the plan that the last step of a table tells."""
    last = list(steps(table))[-1]
    return Plan(len(last.sizes), last.games, [teams_told(row) for row in last.rounds])


def teams_told(row):
    """Return the teams of a round of a table whose classes all are of one person."""
    return [team_told(kind) for kind in row for turn in range(row[kind])]


def team_told(kind):
    """Return the team that a kind tells, where each class is of one person."""
    return tuple([person for person, few in enumerate(kind) if few == 1])
