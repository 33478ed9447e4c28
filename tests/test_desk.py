"""Points 80 to 84: desks."""

import random
import unittest
from copy import deepcopy
from itertools import product

from allteams.desk import Desk
from allteams.errors import BadNumber, BadWish, NothingToUndo
from allteams.looks import is_even
from allteams.plans import Plan
from allteams.wishes import Wishes
from tests.models import SMALL, Book, classes_of, head_of, number_in, some_charge, some_wish
from tests.support import NO_INTEGERS, Raising, kinds_in_order
from tests.test_barred import NO_KINDS
from tests.test_books import NO_TEXTS, TEXTS

HEAD = "classes old 2 young 2\ngames 2:1\nrounds 3 2:2"
LINES = ["each 0-1 old in 0-0", "cost 3 young in 1-2", "each 1-1 old in 1-2"]


class Model:
    """What a desk must be: a list of states, each a text and the settled numbers."""

    def __init__(self, text):
        self.states = [(text, {})]

    def do(self, name, *passed):
        """Do a deed; return the name of the error that it must raise with its value, or None."""
        text, settled = self.states[-1]
        lines = text.split("\n")
        places = [at for at, line in enumerate(lines) if line[:4] in ("each", "cost")]
        if name == "undo":
            if len(self.states) == 1:
                return "NothingToUndo", []
            self.states.pop()
            return None
        if name == "add":
            after = f"{text}\n{passed[0]}"
            if Book(after).wrong is not None:
                return "BadWish", [len(lines) + 1]
            self.states.append((after, settled))
        elif name == "drop":
            if not 0 <= passed[0] < len(places):
                return "BadNumber", [passed[0]]
            del lines[places[passed[0]]]
            self.states.append(("\n".join(lines), settled))
        elif name == "settle":
            self.states.append((text, {**settled, passed[:2]: passed[2]}))
        else:
            if passed not in settled:
                return "BadNumber", [None]
            self.states.append((text, {entry: number for entry, number in settled.items() if entry != passed}))
        return None

    def tables(self):
        """The rounds of all tables of plans that meet the book and have the settled numbers."""
        text, settled = self.states[-1]
        return [
            rounds for rounds in Book(text).fitting()
            if all(number_in(rounds, *entry) == number for entry, number in settled.items())
        ]


def some_deed(model, chance):
    """A deed that can be done, or cannot, as its name and what is passed."""
    text, settled = model.states[-1]
    book = Book(text)
    entry = (chance.randrange(len(book.numbers)), chance.choice(kinds_in_order(book.sizes, book.games)))
    known = chance.choice([*settled, entry])
    return chance.choice([
        ("add", some_wish(book, chance)), ("add", some_wish(book, chance)), ("add", some_charge(book, chance)),
        ("add", "each 2-1 a in 0-0"), ("add", f"rounds 1 {min(book.games)}:0"), ("drop", chance.randint(-1, 4)),
        ("drop", 0), ("settle", *entry, chance.choice((0, 0, 1, 1, 2, 3, 10**29))), ("settle", *entry, 0),
        ("settle", *known, chance.randrange(2)), ("loosen", *known), ("loosen", *known), ("undo",), ("undo",),
    ])


class Checks(Raising):
    def assert_state(self, desk, model):
        """Whether a desk is as its model, and its plans are as point 82 promises."""
        text, settled = model.states[-1]
        book, tables = Book(text), model.tables()
        found = desk.book()
        self.assertIs(type(found), Wishes)
        self.assertEqual((found.names, found.sizes, found.games), (tuple(book.names), tuple(book.sizes), book.games))
        self.assertEqual((found.numbers, found.barred(), found.costs()), (book.numbers, book.barred(), book.costs()))
        self.assertEqual(found.lines, [line for line in text.split("\n") if line[:4] == "each"])
        self.assertEqual((desk.settled(), len(desk)), (settled, len(model.states) - 1))
        self.assertIs(desk.possible(), len(tables) > 0)
        plan = desk.plan()
        if not tables:
            self.assertIsNone(plan)
        else:
            self.assertIs(type(plan), Plan)
            outline = plan.outline(classes_of(book.sizes))
            self.assertIn(outline.rounds, tables)
            self.assertTrue(is_even(plan, classes_of(book.sizes)))
        for at, kind in product(range(len(book.numbers)), kinds_in_order(book.sizes, book.games)):
            numbers = [number_in(rounds, at, kind) for rounds in tables]
            self.assertEqual(desk.range_of(at, kind), (min(numbers), max(numbers)) if tables else None)

    def do(self, desk, model, name, *passed):
        """Do a deed on both, with the same outcome."""
        wrong = model.do(name, *passed)
        if wrong is None:
            self.assertIsNone(getattr(desk, name)(*passed))
        else:
            self.assert_raises(*wrong, getattr(desk, name), *passed)


class Deeds(Checks, unittest.TestCase):
    def test_many_deeds(self):
        longest = 0
        for (sizes, games, numbers), turn in product(SMALL, range(4)):
            chance = random.Random(f"{sizes} {games} {turn}")
            text = head_of(sizes, games, numbers)
            desk, model = Desk(text), Model(text)
            for _ in range(14):
                self.do(desk, model, *some_deed(model, chance))
                self.assert_state(desk, model)
                longest = max(longest, len(desk))
            while len(model.states) > 1:
                self.do(desk, model, "undo")
                self.assert_state(desk, model)
            self.do(desk, model, "undo")
        self.assertGreater(longest, 7)

    def test_wrong_texts(self):
        for value in NO_TEXTS:
            self.assert_raises("BadWish", [0], Desk, value)
        self.assert_raises("BadWish", [4], Desk, HEAD + "\n")
        self.assert_raises("BadWish", [1], Desk, "")
        self.assert_raises("WrongSum", [2, 4, 6], Desk, "classes a 4\ngames 2:1\nrounds 2 2:2")
        for text in TEXTS:
            self.assertEqual((len(Desk(text)), Desk(text).book().lines), (0, Wishes(text).lines))

    def test_lines_that_cannot_be_added(self):
        wrong = [
            *NO_TEXTS, "", "each", "each 0-1 old in 0-3", "each 0-1 no in 0-0", "cost 100 old in 0-0", "games 2:1",
            "each 0-1 old in 0-0\n", "\neach 0-1 old in 0-0", "each 0-1 old in 0-0\ncost 1 old in 0-0", "rounds 0 2:0",
            "rounds 1 2:1", "rounds 128 2:0", "~", " each 0-1 old in 0-0",
        ]
        for many in range(len(LINES) + 1):
            desk = Desk("\n".join([HEAD, *LINES[:many]]))
            for line in wrong:
                self.assert_raises("BadWish", [many + 4], desk.add, line)
            self.assertEqual((len(desk), desk.book().lines), (0, Wishes("\n".join([HEAD, *LINES[:many]])).lines))

    def test_rounds_can_be_added_in_front_of_wishes_alone(self):
        desk, model = Desk(HEAD), Model(HEAD)
        for line in ("rounds 2 2:0", "cost 1 old in 4-4", "rounds 1 2:0", "each 1-1 old in 0-4"):
            self.do(desk, model, "add", line)
            self.assert_state(desk, model)
        self.assertEqual((len(desk), len(desk.book().numbers)), (3, 5))

    def test_60_lines(self):
        desk = Desk(HEAD)
        for turn in range(60):
            desk.add(LINES[turn % 3])
        self.assert_raises("BadWish", [64], desk.add, LINES[0])
        desk.drop(59)
        desk.add(LINES[1])
        self.assertEqual((len(desk), len(desk.book())), (62, 39))

    def test_places(self):
        text = "\n".join([HEAD.replace("rounds 3 2:2", "rounds 1 2:2\nrounds 2 2:2"), *LINES])
        for wrong in [*NO_INTEGERS, -1, 3, 4, 10**29, -(10**29)]:
            self.assert_raises("BadNumber", [wrong], Desk(text).drop, wrong)
        self.assert_raises("BadNumber", [0], Desk(HEAD).drop, 0)
        for place in range(3):
            desk = Desk(text)
            desk.drop(place)
            left = Wishes("\n".join([HEAD, *LINES[:place], *LINES[place + 1 :]]))
            self.assertEqual((desk.book().lines, desk.book().costs()), (left.lines, left.costs()))
            self.assert_raises("BadNumber", [2], desk.drop, 2)

    def test_wrong_settlings(self):
        desk = Desk(HEAD + "\neach 9-9 old in 0-0")
        desk.settle(1, (1, 1), 2)
        for at in [*NO_INTEGERS, -1, 3, 10**29, -(10**29)]:
            self.assert_raises("BadRound", [at], desk.settle, at, None, -1)
            self.assert_raises("BadRound", [at], desk.loosen, at, None)
            self.assert_raises("BadRound", [at], desk.range_of, at, None)
        for kind in NO_KINDS:
            self.assert_raises("BadKind", [kind], desk.settle, 1, kind, -1)
            self.assert_raises("BadKind", [kind], desk.loosen, 1, kind)
            self.assert_raises("BadKind", [kind], desk.range_of, 1, kind)
        for number in [*NO_INTEGERS, -1, -(10**29)]:
            self.assert_raises("BadNumber", [number], desk.settle, 1, (1, 1), number)
        self.assert_raises("BadNumber", [None], desk.loosen, 1, (0, 2))
        self.assert_raises("BadNumber", [None], desk.loosen, 0, (1, 1))
        self.assertEqual((desk.settled(), len(desk)), ({(1, (1, 1)): 2}, 1))

    def test_a_number_that_was_settled_before_no_longer_counts(self):
        desk = Desk(HEAD)
        desk.settle(0, (1, 1), 9)
        self.assertEqual((desk.possible(), desk.range_of(0, (1, 1)), desk.plan()), (False, None, None))
        desk.settle(0, (1, 1), 0)
        self.assertEqual(desk.settled(), {(0, (1, 1)): 0})
        self.assertEqual((desk.range_of(0, (1, 1)), desk.range_of(0, (2, 0))), ((0, 0), (1, 1)))
        desk.undo()
        self.assertEqual((desk.settled(), len(desk)), ({(0, (1, 1)): 9}, 1))

    def test_numbers_settled_where_a_wish_bars(self):
        desk = Desk(HEAD + "\neach 1-1 old in 0-0")
        desk.settle(0, (2, 0), 0)
        self.assertEqual((desk.possible(), desk.range_of(0, (2, 0)), desk.range_of(0, (0, 2))), (True, (0, 0), (0, 0)))
        desk.settle(0, (2, 0), 1)
        self.assertEqual((desk.possible(), desk.range_of(0, (2, 0)), desk.plan()), (False, None, None))

    def test_what_is_returned_is_new(self):
        desk = Desk(HEAD)
        desk.settle(0, (1, 1), 1)
        desk.settled()[(0, (1, 1))] = 2
        desk.settled().clear()
        desk.book().numbers.clear()
        self.assertEqual((desk.settled(), len(desk.book().numbers)), ({(0, (1, 1)): 1}, 3))

    def test_desks_do_not_share_anything(self):
        one, other = Desk(HEAD), Desk(HEAD)
        one.settle(0, (1, 1), 1)
        one.add(LINES[0])
        self.assertEqual((len(other), other.settled(), other.book().lines), (0, {}, []))
        book = one.book()
        one.add(LINES[2])
        self.assertEqual((book.lines, one.book().lines), (LINES[:1], [LINES[0], LINES[2]]))

    def test_equal_deeds_give_equal_plans(self):
        plans = []
        for order in (1, -1):
            desk = Desk(HEAD + "\neach 0-1 old in 0-0")
            for at, kind in ((0, (0, 2)), (1, (2, 0)), (2, (1, 1)))[::order]:
                desk.settle(at, kind, 1)
            plans.append(desk.plan())
        self.assertEqual(plans[0], plans[1])

    def test_nothing_to_undo(self):
        desk = Desk(HEAD)
        self.assert_raises("NothingToUndo", [], desk.undo)
        desk.add(LINES[0])
        with self.assertRaises(BadWish):
            desk.add("")
        with self.assertRaises(BadNumber):
            desk.drop(5)
        self.assertIsNone(desk.undo())
        self.assert_raises("NothingToUndo", [], desk.undo)


class Trials(Checks, unittest.TestCase):
    def test_many_deeds_in_nested_blocks(self):
        for (sizes, games, numbers), turn in product(SMALL, range(2)):
            chance = random.Random(f"{sizes} {games} {turn}")
            text = head_of(sizes, games, numbers)
            desk, model = Desk(text), Model(text)
            self.nest(desk, model, chance, 3)
            self.assert_state(desk, model)

    def nest(self, desk, model, chance, depth):
        for _ in range(3):
            self.do(desk, model, *some_deed(model, chance))
        if depth:
            states = deepcopy(model.states)
            with desk.trial() as held:
                self.assertIs(held, desk)
                self.nest(desk, model, chance, depth - 1)
            model.states = states
            self.assert_state(desk, model)
            self.do(desk, model, *some_deed(model, chance))
            self.do(desk, model, "undo")

    def test_deeds_from_before_can_be_taken_back_in_a_block(self):
        desk = Desk(HEAD)
        desk.add(LINES[0])
        desk.settle(0, (1, 1), 1)
        with desk.trial():
            desk.undo()
            desk.undo()
            self.assertEqual((len(desk), desk.book().lines, desk.settled()), (0, [], {}))
            self.assert_raises("NothingToUndo", [], desk.undo)
            for _ in range(5):
                desk.add(LINES[2])
        self.assertEqual((len(desk), desk.book().lines, desk.settled()), (2, LINES[:1], {(0, (1, 1)): 1}))
        desk.undo()
        self.assertEqual((len(desk), desk.settled()), (1, {}))

    def test_errors_leave_the_block(self):
        desk = Desk(HEAD)
        desk.add(LINES[0])
        for error in (KeyError, NothingToUndo, ValueError, KeyboardInterrupt):
            with self.assertRaises(error):
                with desk.trial():
                    desk.drop(0)
                    with desk.trial():
                        desk.settle(0, (1, 1), 0)
                        raise error()
            self.assertEqual((len(desk), desk.book().lines, desk.settled()), (1, LINES[:1], {}))

    def test_the_state_is_that_of_the_beginning_of_the_block(self):
        desk = Desk(HEAD)
        trial = desk.trial()
        desk.add(LINES[0])
        with trial:
            desk.add(LINES[2])
        self.assertEqual((len(desk), desk.book().lines), (1, LINES[:1]))

    def test_blocks_that_are_left_early(self):
        desk = Desk(HEAD)
        for _ in range(3):
            with desk.trial():
                desk.add(LINES[0])
                continue
        self.assertEqual(len(desk), 0)

    def test_tried(self):
        desk = Desk(HEAD)
        desk.settle(1, (1, 1), 0)
        passed = []
        for value in (None, 5, [], desk):
            self.assertIs(desk.tried(lambda held: value), value)
        told = desk.tried(
            lambda held: [passed.append(held), held.undo(), held.add(LINES[0]), len(held), held.range_of(1, (1, 1))]
        )
        self.assertEqual((told, passed[0] is desk), ([None, None, None, 1, (0, 2)], True))
        self.assertEqual((len(desk), desk.settled(), desk.book().lines), (1, {(1, (1, 1)): 0}, []))
        told = desk.tried(lambda held: [held.undo(), held.tried(lambda again: again.add(LINES[0])), len(held)])
        self.assertEqual(told, [None, None, 0])
        self.assertEqual(len(desk), 1)

    def test_errors_leave_tried(self):
        desk = Desk(HEAD)
        desk.add(LINES[0])
        self.assert_raises("BadWish", [5], desk.tried, lambda held: [held.drop(0), held.add(LINES[0]), held.add("")])
        self.assert_raises("NothingToUndo", [], desk.tried, lambda held: [held.undo(), held.undo()])
        with self.assertRaises(ZeroDivisionError):
            desk.tried(lambda held: [held.undo(), 1 // 0])
        self.assertEqual((len(desk), desk.book().lines), (1, LINES[:1]))

    def test_errors_of_the_book_are_told_as_its_line(self):
        desk = Desk("classes a 2\ngames 2:1\nrounds 1 2:1")
        for line in ("rounds 1 2:1", "rounds 1 2:0 2:0", "rounds 129 2:1", "rounds 130 2:0"):
            self.assert_raises("BadWish", [4], desk.add, line)


if __name__ == "__main__":
    unittest.main()
