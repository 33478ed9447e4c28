"""Plans, which tell the teams of each round."""

from allteams.checks import are_classes, is_list, is_order, is_within
from allteams.errors import BadClasses, BadRounds, BadTeam, BadText, UnlikePeople, WrongTimes
from allteams.kinds import MOST_ROUNDS, all_teams, are_people, check_people, is_team
from allteams.tables import Table
from allteams.texts import comma_word, games_in, games_line, integer_in, line_at, lines_of, rounds_in, words_behind


class Plan:
    """The teams of each round, where each team plays as often as the games tell; it never changes."""

    def __init__(self, people, games, rounds):
        check_people(people, games)
        check_teams(people, games, rounds)
        check_times(people, games, rounds)
        self.many = people
        self.times = {size: games[size] for size in sorted(games)}
        # In order, rows are equal exactly if the same teams play equally often in them.
        self.rows = [in_order(teams) for teams in rounds]

    @property
    def people(self):
        """The number of the people."""
        return self.many

    @property
    def games(self):
        """The dict of the games."""
        return dict(self.times)

    @property
    def rounds(self):
        """The list of a list for each round, of its teams in order."""
        return [list(row) for row in self.rows]

    def __len__(self):
        return len(self.rows)

    def __eq__(self, other):
        return (
            isinstance(other, Plan)
            and self.many == other.many
            and self.times == other.times
            and self.rows == other.rows
        )

    def __add__(self, other):
        if not isinstance(other, Plan):
            return NotImplemented
        if self.many != other.many:
            raise UnlikePeople()
        sizes = sorted([*self.times, *other.times])
        games = {size: self.times.get(size, 0) + other.times.get(size, 0) for size in sizes}
        # An error may hand the rounds out, so they are copies.
        return Plan(self.many, games, self.rounds + other.rounds)

    def rounds_of(self, team):
        """Return the ascending list of the rounds in which a team plays, each as often as it plays there."""
        if not is_team_in(self.many, self.times, team):
            raise BadTeam(team)
        return [at for at, row in enumerate(self.rows) for played in row if played == team]

    def outline(self, classes):
        """Return the table of how many teams of each kind play in each round, by classes of people."""
        check_classes(self.many, classes)
        sizes = [len(members) for members in classes]
        return Table(sizes, self.times, [numbers_of(row, classes) for row in self.rows])

    def renamed(self, names):
        """Return the plan in which the person names[p] takes the place of each person p."""
        if not is_order(names, self.many):
            raise BadClasses(names)
        return Plan(self.many, self.times, [[renamed_team(team, names) for team in row] for row in self.rows])

    def moved(self, order):
        """Return the plan in which the round order[i] is the round i."""
        if not is_order(order, len(self.rows)):
            raise BadRounds(order)
        return Plan(self.many, self.times, [self.rows[at] for at in order])

    def text(self):
        """Return the text of the plan."""
        above = [f"people {self.many}", games_line(self.times)]
        return "\n".join(above + [teams_line(row) for row in self.rows])

    @classmethod
    def read(cls, text):
        """Return the plan with a text."""
        lines = lines_of(text)
        people = people_in(line_at(lines, 0))
        if people is None:
            raise BadText(1)
        games = games_in(line_at(lines, 1), people)
        if games is None:
            raise BadText(2)
        words = {comma_word(team): team for team in all_teams(people, games)}
        return cls(people, games, rounds_in(lines, teams_in, words))


def is_team_in(people, games, value):
    """Tell whether a value is a team of so many people in these games."""
    return is_team(people, value) and len(value) in games


def in_order(teams):
    """Return teams in order."""
    return sorted(teams, key=lambda team: (len(team), team))


def check_teams(people, games, rounds):
    """Raise an error unless these are lists of teams."""
    if not is_list(rounds) or not is_within(len(rounds), 1, MOST_ROUNDS):
        raise BadRounds(rounds)
    if not all([is_list(teams) for teams in rounds]):
        raise BadRounds(rounds)
    for teams in rounds:
        for value in teams:
            if not is_team_in(people, games, value):
                raise BadTeam(value)


def check_times(people, games, rounds):
    """Raise WrongTimes unless each team plays as often as the games tell."""
    played = [team for teams in rounds for team in teams]
    for team in all_teams(people, games):
        # Addition runs this, and an operator calls nothing by a name like count, which errors have as an attribute.
        count = len([one for one in played if one == team])
        if count != games[len(team)]:
            raise WrongTimes(team, count)


def check_classes(people, classes):
    """Raise BadClasses unless these classes part the people."""
    if not are_classes(people, classes):
        raise BadClasses(classes)


def numbers_of(teams, classes):
    """Return the dict from kinds, by classes of people, to the numbers of teams of these kinds."""
    numbers = {}
    for team in teams:
        kind = tuple([len([person for person in team if person in members]) for members in classes])
        numbers[kind] = numbers.get(kind, 0) + 1
    return numbers


def renamed_team(team, names):
    """Return the team of the people whose names are those of a team."""
    return tuple(sorted([names[person] for person in team]))


def people_in(line):
    """Return the number of people that a line tells, or None if it tells none."""
    words = words_behind("people", line)
    if words is None or len(words) != 1:
        return None
    people = integer_in(words[0])
    if not are_people(people):
        return None
    return people


def teams_line(row):
    """Return the line of a text that tells a round, whose teams stand in order."""
    return " ".join(["round"] + [comma_word(team) for team in row])


def teams_in(line, teams):
    """Return the teams that a line tells, or None if it tells none; teams is a dict from all words to teams."""
    words = words_behind("round", line)
    if words is None or not all([word in teams for word in words]):
        return None
    row = [teams[word] for word in words]
    if row != in_order(row):
        return None
    return row
