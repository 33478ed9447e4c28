"""Plans that are even for all people, from the numbers of teams in the rounds alone."""

from allteams.checks import is_integer, is_list, is_within
from allteams.errors import BadRounds, NotFull, WrongSum
from allteams.kinds import MOST_ROUNDS, check_people, choices, total_of
from allteams.tables import Table
from allteams.taking import plan_of


def are_told(games, told):
    """Tell whether a value is a dict from team sizes of the games to numbers of teams."""
    if not isinstance(told, dict) or not all([is_integer(size) and size in games for size in told]):
        return False
    return all([is_integer(told[size]) and told[size] >= 0 for size in told])


def check_numbers(people, games, numbers):
    """Raise an error unless these are numbers with the right sums, where people and games are known to be right."""
    if not is_list(numbers) or not is_within(len(numbers), 1, MOST_ROUNDS):
        raise BadRounds(numbers)
    if not all([are_told(games, told) for told in numbers]):
        raise BadRounds(numbers)
    check_sums(people, games, numbers)


def check_sums(people, games, numbers):
    """Raise WrongSum unless the numbers of each team size add up to the number of all its teams."""
    for size in sorted(games):
        told = sum([row.get(size, 0) for row in numbers])
        due = games[size] * choices(people, size)
        if told != due:
            raise WrongSum(size, told, due)


def even_plan(people, games, numbers):
    """Return a plan with these numbers of teams that is even for all people."""
    check_people(people, games)
    check_numbers(people, games, numbers)
    # In a single class a kind tells just the team size.
    return plan_of(Table([people], games, [{(size,): told[size] for size in told} for told in numbers]))


def full_plan(people, team, *, times=1):
    """Return a plan of all teams of a size in which each person plays just once in each round."""
    check_people(people, {team: times})
    if people % team != 0:
        raise NotFull(people, team)
    # Rounds that nobody plays in twice and that have places for all people are full.
    return fewest_rounds(people, team, times=times)


def fewest_rounds(people, team, *, times=1):
    """Return a plan of all teams of a size with as few rounds as there can be if nobody plays twice in a round."""
    games = {team: times}
    check_people(people, games)
    total = total_of(people, games)
    most = people // team
    return even_plan(people, games, [{team: min(most, total - before)} for before in range(0, total, most)])
