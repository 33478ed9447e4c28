"""Looks at plans: how often people play and meet."""

from allteams.checks import is_within
from allteams.errors import BadPerson
from allteams.plans import check_classes


def plays(plan):
    """Return a list for each round, of how many times each person plays in it."""
    return [[times_in(teams, person) for person in range(plan.people)] for teams in plan.rounds]


def times_in(teams, person):
    """Return how many of these teams a person is in."""
    return len([team for team in teams if person in team])


def uneven(plan, classes):
    """Return None if a plan is even for each class, or the first round that is not, with two people who show it."""
    check_classes(plan.people, classes)
    for at, counts in enumerate(plays(plan)):
        for members in classes:
            least = min([counts[person] for person in members])
            most = max([counts[person] for person in members])
            if most - least > 1:
                return (at, first_with(counts, members, least), first_with(counts, members, most))
    return None


def first_with(counts, members, number):
    """Return the least of the members who play this number of times."""
    return min([person for person in members if counts[person] == number])


def is_even(plan, classes):
    """Tell whether a plan is even for the people of each class."""
    return uneven(plan, classes) is None


def is_full(plan):
    """Tell whether each person plays just once in each round."""
    return all([count == 1 for counts in plays(plan) for count in counts])


def check_person(plan, person):
    """Raise BadPerson unless this is a person of the plan."""
    if not is_within(person, 0, plan.people - 1):
        raise BadPerson(person)


def meetings(plan, one, other):
    """Return the ascending list of the rounds in which two people are in one team, once for each such team."""
    check_person(plan, one)
    check_person(plan, other)
    if one == other:
        raise BadPerson(other)
    return [at for at, teams in enumerate(plan.rounds) for team in teams if one in team and other in team]


def rests(plan, person):
    """Return the ascending list of the rounds in which a person does not play."""
    check_person(plan, person)
    return [at for at, teams in enumerate(plan.rounds) if times_in(teams, person) == 0]
