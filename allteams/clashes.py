"""Wishes that clash, the ranges of numbers that wishes leave, and wishes that are needless."""

from allteams.checks import is_integer
from allteams.errors import BadNumber
from allteams.fits import Frame, check_entry, closed_by, crowd_in, is_possible, range_in, table_in
from allteams.taking import plan_of


def frame_for(wishes):
    """Return the frame of the tables of plans that meet a book."""
    return Frame(wishes.sizes, wishes.games, wishes.numbers)


def clash(wishes):
    """Return None if some plan meets a book, or numbers of wishes that cannot all be met, but any but one of them."""
    frame = frame_for(wishes)
    if is_possible(frame, closed_by(wishes.barred()), {}):
        return None
    kept = list(range(len(wishes)))
    for number in reversed(range(len(wishes))):
        others = [other for other in kept if other != number]
        if not is_possible(frame, closed_by(wishes.barred(others)), {}):
            kept = others
    return kept


def clash_kinds(wishes):
    """Return None if some plan meets a book, or kinds that are crowded by the wishes of its clash."""
    which = clash(wishes)
    if which is None:
        return None
    return crowd_in(frame_for(wishes), closed_by(wishes.barred(which)))


def range_of(wishes, at, kind):
    """Return the least and the greatest number of a kind in a round of plans that meet a book, or None."""
    return range_within(wishes, {}, at, kind)


def range_within(wishes, settled, at, kind):
    """Return the same for the plans with settled numbers alone."""
    frame = frame_for(wishes)
    check_entry(frame, at, kind)
    return range_in(frame, closed_by(wishes.barred()), settled, (at, kind))


def plan_with(wishes, at, kind, number):
    """Return a plan that meets a book and has a number of teams of a kind in a round, or None if there is none."""
    check_settling(wishes, at, kind, number)
    return plan_within(wishes, {(at, kind): number})


def plan_within(wishes, settled):
    """Return a plan that meets a book and has settled numbers, or None if there is none."""
    table = table_in(frame_for(wishes), closed_by(wishes.barred()), settled)
    if table is None:
        return None
    return plan_of(table)


def check_settling(wishes, at, kind, number):
    """Raise an error unless these are a round and a kind of a book, and a number that may be settled there."""
    check_entry(frame_for(wishes), at, kind)
    if not is_integer(number) or number < 0:
        raise BadNumber(number)


def needless_wishes(wishes):
    """Return the ascending list of the wishes that every plan meets that meets all others."""
    return [number for number in range(len(wishes)) if is_needless(wishes, number)]


def is_needless(wishes, number):
    """Tell whether a plan that meets all other wishes never uses an entry that this wish alone bars."""
    frame = frame_for(wishes)
    closed = closed_by(wishes.barred([other for other in range(len(wishes)) if other != number]))
    table = table_in(frame, closed, {})
    if table is None:
        return True
    alone = [entry for entry in wishes.barred([number]) if entry not in closed]
    # One table shows many entries in use; those that it leaves out are in use somewhere exactly if they can have 1.
    if any([table.number(at, kind) > 0 for at, kind in alone]):
        return False
    return not any([is_possible(frame, closed, {entry: 1}) for entry in alone])
