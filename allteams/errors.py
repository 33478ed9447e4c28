"""All errors of the package."""


class TeamError(ValueError):
    """The base class of all errors of the package."""


class BadSizes(TeamError):
    """The value is not a list of sizes."""

    def __init__(self, value):
        self.value = value


class BadPeople(TeamError):
    """The value is not a number of people that is allowed here."""

    def __init__(self, value):
        self.value = value


class BadGames(TeamError):
    """The value is not a dict of games."""

    def __init__(self, value):
        self.value = value


class TooMany(TeamError):
    """There are more teams in all than MOST_TEAMS."""

    def __init__(self, count):
        self.count = count


class BadPerson(TeamError):
    """The value is not a person that is allowed here."""

    def __init__(self, value):
        self.value = value


class BadTeam(TeamError):
    """The value is not a team."""

    def __init__(self, value):
        self.value = value


class BadKind(TeamError):
    """The value is not a kind."""

    def __init__(self, value):
        self.value = value


class BadRounds(TeamError):
    """The value is not a list of rounds."""

    def __init__(self, value):
        self.value = value


class BadRound(TeamError):
    """The value is not the number of a round."""

    def __init__(self, value):
        self.value = value


class BadNumber(TeamError):
    """The value is not a number that is allowed here."""

    def __init__(self, value):
        self.value = value


class BadIndex(TeamError):
    """The value is not the index of a class that is allowed here."""

    def __init__(self, value):
        self.value = value


class BadClasses(TeamError):
    """The value does not part or order the classes or the people as it must."""

    def __init__(self, value):
        self.value = value


class BadText(TeamError):
    """The line of a text cannot stand there."""

    def __init__(self, line):
        self.line = line


class WrongTimes(TeamError):
    """The team plays another number of times than the games tell."""

    def __init__(self, team, count):
        self.team = team
        self.count = count


class NotAdding(TeamError):
    """The numbers of the kind add up to another sum than is due."""

    def __init__(self, kind, told, due):
        self.kind = kind
        self.told = told
        self.due = due


class BadShares(TeamError):
    """The shares of the column do not add up to a whole number."""

    def __init__(self, column):
        self.column = column


class Alone(TeamError):
    """The class is of one person alone."""

    def __init__(self, index):
        self.index = index


class WrongSum(TeamError):
    """The numbers of teams of the size add up to another sum than is due."""

    def __init__(self, size, told, due):
        self.size = size
        self.told = told
        self.due = due


class NotFull(TeamError):
    """So many people have no full plan of teams of this size."""

    def __init__(self, count, team):
        self.count = count
        self.team = team


class NoGrowth(TeamError):
    """More teams of new people are wanted than are there."""

    def __init__(self, wanted, there):
        self.wanted = wanted
        self.there = there


class BadPairs(TeamError):
    """The round has pairs that cannot stand there."""

    def __init__(self, at):
        self.at = at


class ShortRound(TeamError):
    """The round has fewer pairs than it must have."""

    def __init__(self, at, told, least):
        self.at = at
        self.told = told
        self.least = least


class Crowded(TeamError):
    """There is no such plan, as the paper shows."""

    def __init__(self, paper):
        self.paper = paper


class BadCost(TeamError):
    """The value is not a cost."""

    def __init__(self, value):
        self.value = value


class BadWish(TeamError):
    """The line of a book of wishes cannot stand there."""

    def __init__(self, line):
        self.line = line


class UnlikePeople(TeamError):
    """The plans have unlike numbers of people."""


class NothingToUndo(TeamError):
    """There is no deed that can be taken back."""
