"""Settings of sizes and games, and the kinds of teams that they have."""

from allteams.checks import is_list, is_within
from allteams.errors import BadGames, BadKind, BadPeople, BadPerson, BadSizes, BadTeam, TooMany

MOST_TEAMS = 130
MOST_ROUNDS = 130
MOST_PEOPLE = 10
MOST_IN_TEAM = 4
MOST_TIMES = 3
MOST_GAMES = 2


def choices(many, few):
    """Return the number of ways to choose few of many things."""
    if few > many:
        return 0
    ways = 1
    for k in range(few):
        # The product of k + 1 numbers in a row is a multiple of that of 1 to k + 1, so nothing is lost.
        ways = ways * (many - k) // (k + 1)
    return ways


def are_sizes(value):
    """Tell whether a value is a list of sizes."""
    if not is_list(value) or len(value) == 0:
        return False
    return all([is_within(size, 1, MOST_PEOPLE) for size in value]) and sum(value) <= MOST_PEOPLE


def are_games(people, value):
    """Tell whether a value is a dict of games for so many people."""
    if not isinstance(value, dict) or not is_within(len(value), 1, MOST_GAMES):
        return False
    most = min(MOST_IN_TEAM, people)
    return all([is_within(size, 1, most) and is_within(times, 1, MOST_TIMES) for size, times in value.items()])


def total_of(people, games):
    """Return the number of all teams, each counted as many times as it plays."""
    return sum([games[size] * choices(people, size) for size in games])


def check_sizes(sizes):
    """Raise BadSizes unless these are sizes."""
    if not are_sizes(sizes):
        raise BadSizes(sizes)


def check_games(people, games):
    """Raise an error unless these are games for so many people, with few enough teams."""
    if not are_games(people, games):
        raise BadGames(games)
    total = total_of(people, games)
    if total > MOST_TEAMS:
        raise TooMany(total)


def check_setting(sizes, games):
    """Raise an error unless these are sizes and games with few enough teams."""
    check_sizes(sizes)
    check_games(sum(sizes), games)


def are_people(value):
    """Tell whether a value is a number of people."""
    return is_within(value, 1, MOST_PEOPLE)


def check_people(people, games):
    """Raise an error unless these are a number of people and games with few enough teams."""
    if not are_people(people):
        raise BadPeople(people)
    check_games(people, games)


def team_count(sizes, games):
    """Return the number of all teams, each counted as many times as it plays."""
    check_setting(sizes, games)
    return total_of(sum(sizes), games)


def all_kinds(sizes, games):
    """Return the list of all kinds in order."""
    check_setting(sizes, games)
    most = max(games)
    kinds = [()]
    for size in sizes:
        kinds = [kind + (few,) for kind in kinds for few in range(min(size, most - sum(kind)) + 1)]
    return sorted([kind for kind in kinds if sum(kind) in games], key=lambda told: (sum(told), told))


def fits_classes(sizes, value):
    """Tell whether a value is a tuple of an integer for each class, from 0 to its size."""
    if not isinstance(value, tuple) or len(value) != len(sizes):
        return False
    return all([is_within(few, 0, size) for few, size in zip(value, sizes)])


def is_kind_of(sizes, games, value):
    """Tell whether any value is a kind, where the sizes and games are known to be right."""
    return fits_classes(sizes, value) and sum(value) in games


def is_kind(sizes, games, value):
    """Tell whether any value is a kind."""
    check_setting(sizes, games)
    return is_kind_of(sizes, games, value)


def due_of(sizes, games, kind):
    """Return the number of teams of a kind, each counted as many times as it plays."""
    check_setting(sizes, games)
    if not is_kind_of(sizes, games, kind):
        raise BadKind(kind)
    due = games[sum(kind)]
    for size, few in zip(sizes, kind):
        due = due * choices(size, few)
    return due


def is_team(people, value):
    """Tell whether a value is a tuple of 1 to 4 different people, out of so many, in ascending order."""
    if not isinstance(value, tuple) or not is_within(len(value), 1, MOST_IN_TEAM):
        return False
    if not all([is_within(person, 0, people - 1) for person in value]):
        return False
    return all([value[k - 1] < value[k] for k in range(1, len(value))])


def index_of(sizes, person):
    """Return the index of the class of a person, where both are known to be right."""
    index = 0
    behind = sizes[0]
    while person >= behind:
        index = index + 1
        behind = behind + sizes[index]
    return index


def class_of(sizes, person):
    """Return the index of the class of a person."""
    check_sizes(sizes)
    if not is_within(person, 0, sum(sizes) - 1):
        raise BadPerson(person)
    return index_of(sizes, person)


def team_kind(sizes, team):
    """Return the tuple that tells how many people of a team are in each class."""
    check_sizes(sizes)
    if not is_team(sum(sizes), team):
        raise BadTeam(team)
    classes = [index_of(sizes, person) for person in team]
    return tuple([classes.count(index) for index in range(len(sizes))])


def parts_of(first, behind, few):
    """Return all ascending tuples of few of the people from first to behind - 1, in order."""
    if few == 0:
        return [()]
    return [(person, *rest) for person in range(first, behind) for rest in parts_of(person + 1, behind, few - 1)]


def all_teams(people, games):
    """Return the list of all teams in order, where the people and the games are known to be right."""
    return [team for size in sorted(games) for team in parts_of(0, people, size)]


def teams_of(sizes, kind):
    """Yield all teams of a kind in ascending order."""
    check_sizes(sizes)
    if not fits_classes(sizes, kind) or not is_within(sum(kind), 1, MOST_IN_TEAM):
        raise BadKind(kind)
    teams = [()]
    first = 0
    for size, few in zip(sizes, kind):
        # Each team goes on with the people of one class more, whose numbers are greater than all before.
        parts = parts_of(first, first + size, few)
        teams = [team + part for team in teams for part in parts]
        first = first + size
    yield from teams
