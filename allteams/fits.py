"""Tables that fit numbers of teams, barred entries and settled numbers; all arguments are known to be right.

Closed is a dict with the barred entries as its keys, settled a dict from entries to the numbers that they must have.
"""

from allteams.checks import is_within
from allteams.errors import BadKind, BadRound
from allteams.flows import Flow, put_all, put_all_cheaply
from allteams.kinds import all_kinds, due_of, is_kind_of
from allteams.tables import Table


class Frame:
    """All kinds with their due numbers, and the numbers of teams in the rounds."""

    def __init__(self, sizes, games, numbers):
        self.parts = tuple(sizes)
        self.times = {size: games[size] for size in sorted(games)}
        self.dues = {kind: due_of(sizes, games, kind) for kind in all_kinds(sizes, games)}
        self.rows = [{size: told.get(size, 0) for size in self.times} for told in numbers]


def check_entry(frame, at, kind):
    """Raise an error unless these are the number of a round and a kind."""
    if not is_within(at, 0, len(frame.rows) - 1):
        raise BadRound(at)
    if not is_kind_of(frame.parts, frame.times, kind):
        raise BadKind(kind)


def closed_by(entries):
    """Return the dict that has these entries as its keys."""
    return {entry: True for entry in entries}


def started(frame, settled):
    """Return a flow of teams of the kinds to teams of the rounds, without the settled numbers, before its start."""
    wants = {kind: frame.dues[kind] for kind in frame.dues}
    rooms = {(at, size): row[size] for at, row in enumerate(frame.rows) for size in row}
    for at, kind in settled:
        number = settled[(at, kind)]
        wants[kind] = wants[kind] - number
        rooms[(at, sum(kind))] = rooms[(at, sum(kind))] - number
    return Flow(wants, rooms)


def flow_of(frame, closed, settled):
    """Return a flow with as many teams as can be, or None if the settled numbers are too great by themselves."""
    flow = started(frame, settled)
    if min(list(flow.wants.values()) + list(flow.rooms.values())) < 0:
        return None
    if any([settled[entry] > 0 for entry in settled if entry in closed]):
        return None
    ways = {
        kind: [(at, sum(kind)) for at in range(len(frame.rows)) if is_free(closed, settled, (at, kind))]
        for kind in frame.dues
    }
    put_all(flow, ways)
    return flow


def is_free(closed, settled, entry):
    """Tell whether any number of teams may still be dealt to an entry."""
    return entry not in closed and entry not in settled


def is_possible(frame, closed, settled):
    """Tell whether some table fits."""
    flow = flow_of(frame, closed, settled)
    return flow is not None and flow.left() == 0


def crowd_in(frame, closed):
    """Return a list of crowded kinds, which is empty if some table fits."""
    stuck = flow_of(frame, closed, {}).stuck
    return [kind for kind in frame.dues if kind in stuck]


def table_in(frame, closed, settled):
    """Return a table that fits, or None if there is none."""
    flow = flow_of(frame, closed, settled)
    if flow is None or flow.left() > 0:
        return None
    return table_told(frame, flow, settled)


def table_told(frame, flow, settled):
    """Return the table with the numbers of a flow and those that are settled."""
    rounds = [{} for row in frame.rows]
    for at, size in flow.held:
        for kind in flow.held[(at, size)]:
            rounds[at][kind] = flow.held[(at, size)][kind]
    for at, kind in settled:
        rounds[at][kind] = settled[(at, kind)]
    return Table(frame.parts, frame.times, rounds)


def settled_too(settled, entry, number):
    """Return the settled numbers with one more, which takes the place of the old one if there is one."""
    numbers = {one: settled[one] for one in settled}
    numbers[entry] = number
    return numbers


def range_in(frame, closed, settled, entry):
    """Return the least and the greatest number of an entry in the tables that fit, or None if there are none."""
    if not is_possible(frame, closed, settled):
        return None
    if entry in settled:
        return (settled[entry], settled[entry])
    if entry in closed:
        return (0, 0)
    at, kind = entry
    before = started(frame, settled)
    most = min(before.wants[kind], before.rooms[(at, sum(kind))])
    # Some table fits, so each number below the least one, and each one above the greatest, leaves one team more over.
    least = flow_of(frame, closed, settled_too(settled, entry, 0)).left()
    return (least, most - flow_of(frame, closed, settled_too(settled, entry, most)).left())


def cheapest_in(frame, closed, costs):
    """Return the least cost of a table that fits, such a table, and prices that show it; some table must fit."""
    flow = started(frame, {})
    ways = {kind: {} for kind in frame.dues}
    for kind in frame.dues:
        for at in range(len(frame.rows)):
            if (at, kind) not in closed:
                ways[kind][(at, sum(kind))] = costs.get((at, kind), 0)
    prices = put_all_cheaply(flow, ways)
    table = table_told(frame, flow, {})
    return (cost_of_table(table, costs), table, prices)


def cost_of_table(table, costs):
    """Return the sum of the numbers of a table times their costs."""
    return sum([row[kind] * costs.get((at, kind), 0) for at, row in enumerate(table.rounds) for kind in row])
