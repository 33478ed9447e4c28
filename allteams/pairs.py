"""Rounds of pairs that are fixed among some of the people, brought to an end."""

from allteams.checks import is_list, is_within
from allteams.errors import BadPairs, BadPeople, BadRounds, ShortRound, WrongTimes
from allteams.kinds import MOST_PEOPLE, is_team, parts_of
from allteams.tables import Table
from allteams.taking import plan_of


def finished(old, people, rounds):
    """Return a full plan of all pairs, each round of which has the pairs that are fixed among the old people."""
    least = least_pairs(old, people)
    if not is_list(rounds) or len(rounds) != people - 1 or not all([is_list(row) for row in rounds]):
        raise BadRounds(rounds)
    check_pairs(old, rounds)
    for at, row in enumerate(rounds):
        if len(row) < least:
            raise ShortRound(at, len(row), least)
    # Each old person is a class, so each fixed pair is a kind of its own; all new people are one class behind.
    sizes = [1] * old
    if people > old:
        sizes.append(people - old)
    return plan_of(Table(sizes, {2: 1}, [fixed_row(old, people, row) for row in rounds]))


def least_pairs(old, people):
    """Return the least number of pairs among the old people that each round must have."""
    if not is_within(people, 2, MOST_PEOPLE) or people % 2 != 0:
        raise BadPeople(people)
    if not is_within(old, 0, people):
        raise BadPeople(old)
    return max(0, old - people // 2)


def check_pairs(old, rounds):
    """Raise an error unless these are rounds of pairs with each pair of old people in one of them."""
    before = {}
    for at, row in enumerate(rounds):
        if not are_pairs(old, row) or any([pair in before for pair in row]):
            raise BadPairs(at)
        for pair in row:
            before[pair] = at
    for pair in parts_of(0, old, 2):
        if pair not in before:
            raise WrongTimes(pair, 0)


def are_pairs(old, row):
    """Tell whether all values of a list are pairs of old people, and nobody is in two of them."""
    if not all([is_team(old, value) and len(value) == 2 for value in row]):
        return False
    people = [person for pair in row for person in pair]
    return len(set(people)) == len(people)


def fixed_row(old, people, row):
    """Return the numbers of kinds of a round: its pairs, the other old people with new ones, and pairs of new ones."""
    paired = [person for pair in row for person in pair]
    alone = [person for person in range(old) if person not in paired]
    numbers = {kind_told(old, people, pair): 1 for pair in row}
    for person in alone:
        numbers[kind_told(old, people, (person, old))] = 1
    among = (people - old - len(alone)) // 2
    # One new person alone has no such kind.
    if among > 0:
        numbers[kind_told(old, people, (old, old))] = among
    return numbers


def kind_told(old, people, pair):
    """Return the kind of a pair, in which the number of the old people stands for any new person."""
    kind = [0] * min(old + 1, people)
    for person in pair:
        kind[person] = kind[person] + 1
    return tuple(kind)
