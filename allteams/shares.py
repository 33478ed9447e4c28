"""Shares dealt out whole: a table of fractions is rounded such that its sums are rounded, too."""

from allteams.errors import BadShares


def column_sum(rows, column):
    """Return the sum of a column."""
    return sum([row[column] for row in rows])


def check_columns(rows, bottom):
    """Raise BadShares unless the shares of each column add up to a whole number."""
    for column in range(len(rows[0])):
        if column_sum(rows, column) % bottom != 0:
            raise BadShares(column)


def dealt(rows, bottom):
    """Return integers that round the shares, with the sums of the columns and rounded sums of the rows."""
    check_columns(rows, bottom)
    # All shares are rounded down first; then each column rounds up as many as its sum is short of.
    parts = [{column: share % bottom for column, share in enumerate(row) if share % bottom > 0} for row in rows]
    short = [sum([row.get(column, 0) for row in parts]) // bottom for column in range(len(rows[0]))]
    ups = [{} for column in short]
    tops = [sum(row.values()) for row in parts]
    for at, top in enumerate(tops):
        for turn in range(top // bottom):
            round_up(parts, short, ups, at)
    # A row may round up one share more only now, since other rows may need what it would take.
    for at, top in enumerate(tops):
        if top % bottom > 0:
            round_up(parts, short, ups, at)
    return [
        [share // bottom + ups[column].get(at, 0) for column, share in enumerate(row)] for at, row in enumerate(rows)
    ]


def round_up(parts, short, ups, at):
    """Let a row round up one share more, if a column that is short can be reached; otherwise change nothing.

    For each column, ups has the rows that round up there. In a column that is no longer short, the row can take the
    place of another row, which then looks for a column in its turn; so each other row rounds up as many as before.
    """
    taken = {}
    left = {at: None}
    wave = [at]
    while len(wave) > 0:
        further = []
        for row in wave:
            for column in [place for place in parts[row] if row not in ups[place] and place not in taken]:
                taken[column] = row
                if short[column] > 0:
                    short[column] = short[column] - 1
                    exchange(ups, taken, left, column)
                    return
                owners = [owner for owner in ups[column] if owner not in left]
                for owner in owners:
                    left[owner] = column
                further.extend(owners)
        wave = further


def exchange(ups, taken, left, column):
    """Let the row that takes a column round up there instead of in the column that it left, and so on."""
    while column is not None:
        row = taken[column]
        ups[column][row] = 1
        column = left[row]
        if column is not None:
            del ups[column][row]


def is_dealt(rows, bottom, given):
    """Tell whether these are integers as dealt may return them."""
    check_columns(rows, bottom)
    if [len(row) for row in given] != [len(row) for row in rows]:
        return False
    rounded = [are_rounded([*row, sum(row)], bottom, [*told, sum(told)]) for row, told in zip(rows, given)]
    kept = [column_sum(given, at) * bottom == column_sum(rows, at) for at in range(len(rows[0]))]
    return all(rounded + kept)


def are_rounded(shares, bottom, told):
    """Tell whether each integer is a share, divided by bottom, rounded down or up."""
    return all([share // bottom <= number <= (share + bottom - 1) // bottom for share, number in zip(shares, told)])
