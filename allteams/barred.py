"""Tables that fit numbers of teams and bar entries, crowds that show that there are none, and cheapest tables."""

from allteams.checks import is_list, is_within
from allteams.errors import BadCost, Crowded
from allteams.evens import check_numbers
from allteams.fits import Frame, cheapest_in, check_entry, closed_by, crowd_in, table_in
from allteams.kinds import check_setting, is_kind_of
from allteams.taking import plan_of

MOST_COST = 1000


def frame_of(sizes, games, numbers, barred):
    """Return the frame of tables, or raise an error if something is wrong with the arguments."""
    check_setting(sizes, games)
    check_numbers(sum(sizes), games, numbers)
    frame = Frame(sizes, games, numbers)
    for at, kind in barred:
        check_entry(frame, at, kind)
    return frame


def check_costs(frame, costs):
    """Raise an error unless these are costs of entries."""
    for at, kind in sorted(costs):
        check_entry(frame, at, kind)
        if not is_within(costs[(at, kind)], -MOST_COST, MOST_COST):
            raise BadCost(costs[(at, kind)])


def check_crowd(frame, closed):
    """Raise Crowded if no table fits."""
    kinds = crowd_in(frame, closed)
    if len(kinds) > 0:
        raise Crowded(kinds)


def fitting_table(sizes, games, numbers, barred=()):
    """Return a table with these numbers of teams and no teams at barred entries."""
    frame = frame_of(sizes, games, numbers, barred)
    closed = closed_by(barred)
    check_crowd(frame, closed)
    return table_in(frame, closed, {})


def fitting_plan(sizes, games, numbers, barred=()):
    """Return the plan of a table with these numbers of teams and no teams at barred entries."""
    return plan_of(fitting_table(sizes, games, numbers, barred))


def is_crowded(sizes, games, numbers, barred, kinds):
    """Tell whether a value is a list of crowded kinds."""
    frame = frame_of(sizes, games, numbers, barred)
    if not is_list(kinds) or len(kinds) == 0 or not all([is_kind_of(sizes, games, kind) for kind in kinds]):
        return False
    if list(kinds) != [kind for kind in frame.dues if kind in kinds] or sum(kinds[0]) != sum(kinds[-1]):
        return False
    closed = closed_by(barred)
    rooms = [
        row[sum(kinds[0])]
        for at, row in enumerate(frame.rows)
        if not all([(at, kind) in closed for kind in kinds])
    ]
    return sum([frame.dues[kind] for kind in kinds]) > sum(rooms)


def cheapest_table(sizes, games, numbers, costs, barred=()):
    """Return the least cost of a table that fits, such a table, and prices that show it."""
    frame = frame_of(sizes, games, numbers, barred)
    check_costs(frame, costs)
    closed = closed_by(barred)
    check_crowd(frame, closed)
    return cheapest_in(frame, closed, costs)


def are_prices(sizes, games, numbers, costs, barred, cost, prices):
    """Tell whether prices show that no table that fits costs less than a number."""
    frame = frame_of(sizes, games, numbers, barred)
    check_costs(frame, costs)
    fees, charges = prices
    places = [(at, size) for at, row in enumerate(frame.rows) for size in row]
    if sorted(fees) != sorted(places) or sorted(charges) != sorted(frame.dues):
        return False
    closed = closed_by(barred)
    for at, size in places:
        for kind in [one for one in frame.dues if sum(one) == size and (at, one) not in closed]:
            if costs.get((at, kind), 0) < fees[(at, size)] + charges[kind]:
                return False
    shown = sum([fees[(at, size)] * frame.rows[at][size] for at, size in places])
    return shown + sum([charges[kind] * frame.dues[kind] for kind in frame.dues]) >= cost
