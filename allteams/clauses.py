"""The lines of books of wishes: classes, rounds, wishes and costs."""

from allteams.kinds import are_sizes
from allteams.texts import integer_in, words_behind

MOST_LETTERS = 8
MOST_EACH = 9
MOST_AMOUNT = 99


class Scope:
    """The class, the rounds and the team size that a line speaks of; the size is None if it speaks of all teams."""

    def __init__(self, index, first, last, size):
        self.index = index
        self.first = first
        self.last = last
        self.size = size

    def covers(self, at, size):
        """Tell whether the line speaks of the teams of a size in a round."""
        return self.first <= at <= self.last and (self.size is None or self.size == size)


class Wish:
    """How many people of its class each team that it speaks of shall have."""

    def __init__(self, scope, low, high):
        self.scope = scope
        self.low = low
        self.high = high


class Charge:
    """What each person of its class costs in each team that it speaks of."""

    def __init__(self, scope, amount):
        self.scope = scope
        self.amount = amount


def classes_in(line):
    """Return the names and the sizes of the classes that a line tells, or None if it tells none."""
    words = words_behind("classes", line)
    if words is None or len(words) % 2 != 0:
        return None
    names = words[0::2]
    sizes = [integer_in(word) for word in words[1::2]]
    if not all([is_name(name) for name in names]) or len(set(names)) < len(names) or not are_sizes(sizes):
        return None
    return (names, sizes)


def is_name(word):
    """Tell whether a word is a name."""
    return word.isascii() and word.isalpha() and word.islower() and len(word) <= MOST_LETTERS


def repeated_in(line, games):
    """Return the number of rounds and the numbers of teams in each that a line tells, or None if it tells none."""
    words = words_behind("rounds", line)
    if words is None or len(words) < 2:
        return None
    count = integer_in(words[0])
    told = {}
    for word in words[1:]:
        size, colon, number = word.partition(":")
        told[integer_in(size)] = integer_in(number)
    if count is None or count == 0:
        return None
    if not all([size in games and told[size] is not None for size in told]):
        return None
    # A wrong order or a size told twice shows when the line is written again.
    if rounds_line(count, told) != line:
        return None
    return (count, told)


def rounds_line(count, told):
    """Return the line that tells rounds."""
    return " ".join([f"rounds {count}"] + [f"{size}:{told[size]}" for size in sorted(told)])


def span_in(word):
    """Return the two integers of a span, or None if a word is none."""
    first, dash, last = word.partition("-")
    low = integer_in(first)
    high = integer_in(last)
    if low is None or high is None or low > high:
        return None
    return (low, high)


def amount_in(word):
    """Return the amount that a word writes, or None if it writes none."""
    number = integer_in(word.removeprefix("-"))
    if number is None or number > MOST_AMOUNT:
        return None
    if not word.startswith("-"):
        return number
    if number == 0:
        return None
    return -number


def scope_in(words, places, games, many):
    """Return the scope that words tell in a book of so many rounds, or None if they tell none.

    For each name of a class, places has its index.
    """
    if len(words) not in (3, 5) or words[0] not in places or words[1] != "in":
        return None
    span = span_in(words[2])
    if span is None or span[1] >= many:
        return None
    size = None
    if len(words) == 5:
        size = integer_in(words[4])
        if words[3] != "of" or size not in games:
            return None
    return Scope(places[words[0]], span[0], span[1], size)


def clause_in(line, places, games, many):
    """Return the wish or the charge that a line tells in a book of so many rounds, or None if it tells none."""
    words = line.split(" ")
    scope = scope_in(words[2:], places, games, many)
    if scope is None:
        return None
    if words[0] == "each":
        return wish_in(words[1], scope)
    if words[0] == "cost":
        return charge_in(words[1], scope)
    return None


def wish_in(word, scope):
    """Return the wish with the span that a word tells, or None if it tells none."""
    span = span_in(word)
    if span is None or span[1] > MOST_EACH:
        return None
    return Wish(scope, span[0], span[1])


def charge_in(word, scope):
    """Return the charge with the amount that a word tells, or None if it tells none."""
    amount = amount_in(word)
    if amount is None:
        return None
    return Charge(scope, amount)
