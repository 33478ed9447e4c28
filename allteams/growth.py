"""Full plans of few people kept in full plans of more people."""

from allteams.checks import is_within
from allteams.errors import BadPeople, NoGrowth, NotFull
from allteams.kinds import MOST_PEOPLE, choices, due_of
from allteams.looks import is_full
from allteams.plans import Plan
from allteams.tables import Table
from allteams.taking import plan_of


def grown(plan, people):
    """Return a full plan of more people whose rounds contain those of a full plan."""
    old = plan.people
    team = check_growth(plan, people)
    if people == old:
        return Plan(people, plan.games, plan.rounds)
    kept = [{(team, 0): old // team, (0, team): (people - old) // team} for teams in plan.rounds]
    sizes = (old, people - old)
    rounds = plan_of(Table(sizes, plan.games, kept + further_rounds(sizes, team, len(plan)))).rounds
    # Teams of old people alone play in the first rounds only; there the plan has all of them, dealt in its own way.
    first = [teams + teams_beyond(row, old) for teams, row in zip(plan.rounds, rounds)]
    return Plan(people, plan.games, first + rounds[len(plan) :])


def check_growth(plan, people):
    """Raise an error unless the plan can grow to so many people; return its team size."""
    old = plan.people
    team = min(plan.games)
    if plan.games != {team: 1} or not is_full(plan):
        raise NotFull(old, team)
    if not is_within(people, old, MOST_PEOPLE):
        raise BadPeople(people)
    if people % team != 0:
        raise NotFull(people, team)
    wanted = len(plan) * (people - old) // team
    there = choices(people - old, team)
    if wanted > there:
        raise NoGrowth(wanted, there)
    return team


def further_rounds(sizes, team, before):
    """Return the rounds of a table behind those before, in which old people do not play among themselves.

    The classes are the old and the new people; all teams of old people and some of new people play before.
    """
    left = {(many, team - many): due_of(sizes, {team: 1}, (many, team - many)) for many in range(team)}
    left[(0, team)] = left[(0, team)] - before * sizes[1] // team
    rounds = []
    while sum(left.values()) > 0:
        row = {}
        places = sizes[0]
        for turn in range(sum(sizes) // team):
            # Teams with many old people go first, while there are places for them. This deals all teams out for all
            # numbers of people up to 10.
            kind = max([one for one in left if left[one] > 0 and one[0] <= places])
            left[kind] = left[kind] - 1
            places = places - kind[0]
            row[kind] = row.get(kind, 0) + 1
        rounds.append(row)
    return rounds


def keeps(plan, old):
    """Tell whether each round of an old plan has just the teams of its people in the same round of a plan."""
    if len(plan) < len(old):
        return False
    return all([teams == teams_within(plan.rounds[at], old.people) for at, teams in enumerate(old.rounds)])


def teams_within(teams, people):
    """Return the teams all of whose people are less than a number of people."""
    return [team for team in teams if team[-1] < people]


def teams_beyond(teams, people):
    """Return the teams none of whose people is less than a number of people."""
    return [team for team in teams if team[0] >= people]
