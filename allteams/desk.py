"""Desks, which keep a book of wishes that can be changed."""

from allteams.checks import is_within
from allteams.clashes import check_settling, frame_for, plan_within, range_within
from allteams.errors import BadNumber, BadWish, NothingToUndo, WrongSum
from allteams.fits import check_entry, closed_by, is_possible, settled_too
from allteams.wishes import Wishes


class Trial:
    """A block at whose end a desk is as it was when the block began."""

    def __init__(self, desk):
        self.desk = desk
        self.past = ()
        self.now = None

    def __enter__(self):
        self.past = self.desk.past
        self.now = self.desk.now
        return self.desk

    def __exit__(self, kind, value, trace):
        self.desk.past = self.past
        self.desk.now = self.now


class Desk:
    """A book of wishes with numbers that are settled, which deeds change."""

    def __init__(self, text):
        # What is now is a tuple of the book and the settled numbers; the past has one such tuple for each deed, from
        # before it. These are replaced and never changed, so to have kept them is enough to bring them back.
        self.past = ()
        self.now = (Wishes(text), {})

    def __len__(self):
        return len(self.past)

    def become(self, wishes, settled):
        """Put another book and other settled numbers in the place of those that are there."""
        self.past = (*self.past, self.now)
        self.now = (wishes, settled)

    def add(self, line):
        """Put a line behind the last one of the book."""
        wishes, settled = self.now
        place = len(wishes.written) + 1
        if not isinstance(line, str) or "\n" in line:
            raise BadWish(place)
        try:
            changed = Wishes("\n".join([*wishes.written, line]))
        except (BadWish, WrongSum):
            raise BadWish(place) from None
        self.become(changed, settled)

    def drop(self, place):
        """Take away the wish or the cost at a place."""
        wishes, settled = self.now
        if not is_within(place, 0, len(wishes.written) - wishes.above - 1):
            raise BadNumber(place)
        lines = list(wishes.written)
        del lines[wishes.above + place]
        self.become(Wishes("\n".join(lines)), settled)

    def settle(self, at, kind, number):
        """Settle the number of teams of a kind in a round."""
        wishes, settled = self.now
        check_settling(wishes, at, kind, number)
        self.become(wishes, settled_too(settled, (at, kind), number))

    def loosen(self, at, kind):
        """Let the number of teams of a kind in a round be any again."""
        wishes, settled = self.now
        check_entry(frame_for(wishes), at, kind)
        if (at, kind) not in settled:
            raise BadNumber(None)
        self.become(wishes, {entry: settled[entry] for entry in settled if entry != (at, kind)})

    def undo(self):
        """Take back the last deed that has not been taken back."""
        if len(self.past) == 0:
            raise NothingToUndo()
        self.now = self.past[-1]
        self.past = self.past[:-1]

    def book(self):
        """Return the book."""
        return self.now[0]

    def settled(self):
        """Return the dict from entries to the numbers that are settled."""
        numbers = self.now[1]
        return {entry: numbers[entry] for entry in numbers}

    def possible(self):
        """Tell whether some plan meets the book and has all numbers that are settled."""
        wishes, settled = self.now
        return is_possible(frame_for(wishes), closed_by(wishes.barred()), settled)

    def plan(self):
        """Return a plan that meets the book and has all numbers that are settled, or None if there is none."""
        wishes, settled = self.now
        return plan_within(wishes, settled)

    def range_of(self, at, kind):
        """Return the least and the greatest number of a kind in a round of all these plans, or None."""
        wishes, settled = self.now
        return range_within(wishes, settled, at, kind)

    def trial(self):
        """Return an object for a with statement at whose end the desk is as it was when its block began."""
        return Trial(self)

    def tried(self, deed):
        """Return what a deed returns that is done in such a block."""
        with self.trial() as held:
            return deed(held)
