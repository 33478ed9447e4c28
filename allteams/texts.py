"""Integers, games and lines as they stand in texts."""

from allteams.errors import BadText
from allteams.kinds import MOST_ROUNDS, MOST_TEAMS, are_games, total_of

MOST_DIGITS = 30
# The people or their sizes, and the games, stand above the rounds.
LINES_ABOVE = 2


def integer_in(word):
    """Return the integer of at least 0 that a word writes, or None if it writes none."""
    if not word.isascii() or not word.isdigit() or len(word) > MOST_DIGITS:
        return None
    if word[0] == "0" and word != "0":
        return None
    return int(word)


def lines_of(text):
    """Return the lines of a text."""
    if not isinstance(text, str):
        raise BadText(0)
    return text.split("\n")


def line_at(lines, at):
    """Return a line, an empty one if it is missing: neither can stand anywhere, so both fail alike."""
    if at < len(lines):
        return lines[at]
    return ""


def words_behind(first, line):
    """Return the words of a line behind the first one, or None if another word is the first one."""
    words = line.split(" ")
    if words[0] != first:
        return None
    return words[1:]


def games_line(games):
    """Return the line of a text that tells games."""
    return " ".join(["games"] + [f"{size}:{games[size]}" for size in sorted(games)])


def games_in(line, people):
    """Return the games that a line tells for so many people, or None if it tells none with few enough teams."""
    words = words_behind("games", line)
    if words is None:
        return None
    games = {}
    for word in words:
        size, colon, times = word.partition(":")
        games[integer_in(size)] = integer_in(times)
    # A wrong order, a size told twice or a sign too many shows when the games are written again.
    if not are_games(people, games) or games_line(games) != line:
        return None
    if total_of(people, games) > MOST_TEAMS:
        return None
    return games


def comma_word(numbers):
    """Return the word of a text that tells a kind or a team."""
    return ",".join([str(number) for number in numbers])


def rounds_in(lines, reading, words):
    """Return what reading makes of each line of a round, given all words for it; it returns None for a wrong line."""
    rounds = []
    for at in range(LINES_ABOVE, max(len(lines), LINES_ABOVE + 1)):
        row = reading(line_at(lines, at), words)
        if row is None or len(rounds) == MOST_ROUNDS:
            raise BadText(at + 1)
        rounds.append(row)
    return rounds
