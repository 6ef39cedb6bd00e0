import random
import unittest

from tests.drawn import draw_book, draw_fitting, draw_plan
from tests.expecting import NO_EXPRESSIONS, NO_NUMBERS, NO_STRINGS, Expecting, Touchy
from tests.plans import build
from tests.wishing import NO_WISHES, RIGHT_WISHES, WISHED, draw_wish
from wovenplaces.books import Book
from wovenplaces.desks import Desk
from wovenplaces.errors import (
    Broken, InvalidExpression, InvalidNumber, InvalidWish, NotABook, NothingToUndo, OpenRing, PartRing, TooManyParts,
    UnknownName)
from wovenplaces.expressions import Name, Sign, read_expression
from wovenplaces.mends import shown_against

HEAD = "base 2\nsigns ab\nhanded x\n"
SWAP = HEAD + "row p = weave(part(1, 2, x), part(0, 2, x))\nrow q = weave(q, x)"


class Failure(Exception):
    """An error that is none of the package's."""


def state_of(desk):
    return str(desk.book), desk.wishes, desk.changes


class Examples(Expecting):
    def test_examples_of_the_document(self):
        desk = Desk(Book.read(HEAD + "row p = weave(part(1, 2, x), part(0, 2, x))"))
        desk.wish(("once", "p", "x"))
        desk.put_row("p", read_expression("drop(1, x)"))
        self.assertEqual([desk.changes, desk.wishes, str(desk.book.row("p"))],
                         [2, (("once", "p", "x"),), "drop(1, x)"])
        caught = self.raised(Broken, desk.wish, ("all", "p", "x"))
        self.assertEqual((caught.index, caught.shown), (1, 0))

    def test_class_and_members_stand_in_their_file(self):
        self.assertEqual(Desk.__module__, "wovenplaces.desks")
        for member in ("put_row", "wish", "lift", "undo", "trial", "tried", "book", "wishes", "changes"):
            self.assertIn(member, vars(Desk))


class Deeds(Expecting):
    def setUp(self):
        self.desk = Desk(Book.read(SWAP))

    def broken(self, index, shown, call, *values, **named):
        before = state_of(self.desk)
        caught = self.raised(Broken, call, *values, **named)
        self.assertEqual((caught.index, caught.shown), (index, shown))
        self.assertEqual(state_of(self.desk), before)

    def refused(self, error, wrong, call, *values, **named):
        before = state_of(self.desk)
        self.given(error, wrong, call, *values, **named)
        self.assertEqual(state_of(self.desk), before)

    def test_at_first(self):
        book = Book.read(SWAP)
        desk = Desk(book=book)
        self.assertEqual((desk.book, desk.wishes, desk.changes, bool(desk)), (book, (), 0, True))
        self.assertIs(desk.book, book)
        self.raised(NothingToUndo, desk.undo)
        self.assertTrue(desk != Desk(book) and desk == desk)

    def test_no_books(self):
        for wrong in (None, True, 0, "", SWAP, (), [], Touchy(), Book, Name("x"), self.desk):
            self.given(NotABook, wrong, Desk, wrong)
            self.given(NotABook, wrong, Desk, book=wrong)

    def test_deeds_return_nothing(self):
        for told in (self.desk.put_row("p", Name("x")), self.desk.wish(("full", "p")), self.desk.lift(0),
                     self.desk.undo(), self.desk.wish(wish=("full", "p")), self.desk.lift(index=1),
                     self.desk.put_row(expression=Sign("a"), name="q")):
            self.assertIsNone(told)
        self.assertEqual((self.desk.changes, self.desk.wishes), (5, (("full", "p"),)))

    def test_the_first_broken_wish(self):
        desk = self.desk
        for wish in (("full", "p"), ("once", "p", "x"), ("all", "p", "x"), ("all", "q", "x")):
            desk.wish(wish)
        self.broken(4, 0, desk.wish, ("full", "q"))
        self.broken(4, 0, desk.wish, wish=("once", "q", "x"))
        self.broken(4, 0, desk.wish, ("alike", "p", "x"))
        self.broken(0, 0, desk.put_row, "p", Name("q"))
        self.broken(1, 2, desk.put_row, "p", read_expression("lead(drop(2, x), x)"))
        self.broken(1, 1, desk.put_row, "p", read_expression("weave(part(1, 2, x), x)"))
        self.broken(2, 0, desk.put_row, expression=read_expression("drop(1, x)"), name="p")
        self.broken(2, 0, desk.put_row, "p", Sign("b"))
        self.broken(3, 1, desk.put_row, "q", read_expression("lead(x, drop(5, x))"))
        desk.put_row("q", read_expression("lead(x, x)"))
        desk.lift(1)
        desk.put_row("p", read_expression("weave(part(1, 2, x), x)"))
        self.broken(2, 0, desk.put_row, "q", Sign("a"))
        self.assertEqual(desk.wishes, (("full", "p"), ("all", "p", "x"), ("all", "q", "x")))

    def test_wrong_deeds(self):
        desk = self.desk
        desk.wish(("full", "p"))
        for wrong in [*NO_STRINGS, "", "x", "v", "p ", "P", Name("p")]:
            self.refused(UnknownName, wrong, desk.put_row, wrong, Name("x"))
            self.refused(UnknownName, wrong, desk.put_row, wrong, None)
        for wrong in [*NO_EXPRESSIONS, Book.read(SWAP)]:
            self.refused(InvalidExpression, wrong, desk.put_row, "p", wrong)
            self.refused(InvalidExpression, wrong, desk.put_row, expression=wrong, name="q")
        for wrong in [*NO_NUMBERS, 1, 2, -1, 10 ** 39, -10 ** 39]:
            self.refused(InvalidNumber, wrong, desk.lift, wrong)
            self.refused(InvalidNumber, wrong, desk.lift, index=wrong)
        desk.lift(0)
        self.refused(InvalidNumber, 0, desk.lift, 0)

    def test_wrong_wishes(self):
        self.desk = Desk(WISHED)
        self.desk.wish(("once", "y", "x"))
        for wish in NO_WISHES:
            self.refused(InvalidWish, wish, self.desk.wish, wish)
            self.refused(InvalidWish, wish, self.desk.wish, wish=wish)

    def test_errors_of_the_book_come_first(self):
        desk = self.desk
        desk.wish(("all", "p", "x"))
        for text, error, wanted in [("weave(v, u)", UnknownName, "v"), ("weave(x, x, x)", InvalidExpression, None),
                                    ("drop(1, p)", OpenRing, "p"), ("weave(part(0, 2, p), 'a')", PartRing, "p"),
                                    ("part(0, 2, part(0, 2, part(0, 2, part(1, 2, x))))", TooManyParts, 4)]:
            expression, before = read_expression(text), state_of(desk)
            caught = self.raised(error, desk.put_row, "p", expression)
            told = [getattr(caught, attribute, None) for attribute in ("given", "name", "many")]
            self.assertIn(expression if wanted is None else wanted, told)
            self.assertEqual(state_of(desk), before)

    def test_undo(self):
        desk = self.desk
        states = [state_of(desk)]
        for deed in [lambda: desk.wish(("full", "p")), lambda: desk.put_row("p", Name("x")),
                     lambda: desk.put_row("p", Name("x")), lambda: desk.wish(("full", "p")), lambda: desk.lift(0),
                     lambda: desk.put_row("q", desk.book.row("q"))]:
            deed()
            states.append(state_of(desk))
        self.assertEqual([changes for _, _, changes in states], list(range(7)))
        while len(states) > 1:
            states.pop()
            self.assertIsNone(desk.undo())
            self.assertEqual(state_of(desk), states[-1])
        caught = self.raised(NothingToUndo, desk.undo)
        self.assertEqual(vars(caught), {})
        desk.put_row("p", Sign("a"))
        self.assertEqual(desk.changes, 1)

    def test_the_wishes_are_the_ones_that_were_passed(self):
        wish = ("full", "".join(["dr", "op(1, q)"]))
        self.desk.wish(wish)
        self.assertIs(self.desk.wishes[0], wish)

    def test_right_wishes(self):
        desk = Desk(WISHED)
        for wish in RIGHT_WISHES:
            shown = shown_against(WISHED, wish)
            if shown is None:
                desk.wish(wish)
            else:
                caught = self.raised(Broken, desk.wish, wish)
                self.assertEqual((caught.index, caught.shown), (len(desk.wishes), shown))
        self.assertEqual(desk.wishes, tuple(wish for wish in RIGHT_WISHES if shown_against(WISHED, wish) is None))


class Model:
    """A plain list of states: a book and its wishes behind each deed."""

    def __init__(self, book):
        self.states = [(book, ())]

    def after(self, deed, values):
        """The state that the deed makes, or the error that refuses it with what it holds."""
        book, wishes = self.states[-1]
        if deed == "undo":
            return ("NothingToUndo",) if len(self.states) == 1 else None
        if deed == "lift":
            return (book, wishes[:values[0]] + wishes[values[0] + 1:]) if values[0] < len(wishes) else (
                "InvalidNumber", values[0])
        if deed == "wish":
            shown = shown_against(book, values[0])
            return (book, (*wishes, values[0])) if shown is None else ("Broken", len(wishes), shown)
        try:
            made = book.with_row(*values)
        except ArithmeticError as caught:
            return (type(caught).__name__, *vars(caught).values())
        for index, wish in enumerate(wishes):
            if shown_against(made, wish) is not None:
                return "Broken", index, shown_against(made, wish)
        return made, wishes

    def done(self, deed, values):
        """Does the deed, and tells what refuses it."""
        after = self.after(deed, values)
        if after is None:
            self.states.pop()
        elif isinstance(after[0], str):
            return after
        else:
            self.states.append(after)
        return None


class Drawn(Expecting):
    def some_deed(self, chance, drawn, model):
        kind = chance.choice(("put", "put", "put", "wish", "wish", "lift", "undo"))
        if kind == "lift":
            return kind, (chance.randint(0, len(model.states[-1][1])),)
        if kind == "wish":
            return kind, (draw_wish(chance, drawn),)
        if kind == "put":
            plan = draw_plan(chance, drawn.base, drawn.signs, drawn.handed + drawn.names, chance.choice((1, 3, 7)), 7, 1)
            return kind, (chance.choice(drawn.names), build(plan))
        return kind, ()

    def do(self, desk, deed, values):
        try:
            {"put": desk.put_row, "wish": desk.wish, "lift": desk.lift, "undo": desk.undo}[deed](*values)
        except Exception as caught:
            return (type(caught).__name__, *vars(caught).values())
        return None

    def same(self, desk, model):
        book, wishes = model.states[-1]
        self.assertEqual((desk.book, desk.wishes, desk.changes), (book, wishes, len(model.states) - 1))

    def test_drawn_deeds(self):
        chance = random.Random(1)
        refused = {}
        for _ in range(80):
            drawn = draw_book(chance)
            desk, model = Desk(drawn.made()), Model(drawn.made())
            for _ in range(25):
                deed, values = self.some_deed(chance, drawn, model)
                wanted = model.done(deed, values)
                self.assertEqual(self.do(desk, deed, values), wanted)
                self.same(desk, model)
                if wanted:
                    refused[wanted[0]] = refused.get(wanted[0], 0) + 1
                for wish in desk.wishes:
                    self.assertIsNone(shown_against(desk.book, wish))
        self.assertLessEqual({"Broken", "NothingToUndo", "InvalidNumber", "OpenRing", "PartRing"}, set(refused))
        self.assertGreater(refused["Broken"], 100)

    def test_drawn_trials(self):
        chance = random.Random(2)
        for _ in range(80):
            drawn = draw_book(chance)
            desk, model = Desk(drawn.made()), Model(drawn.made())
            for _ in range(4):
                self.some_trial(chance, drawn, desk, model, desk.trial(), 3)
                self.same(desk, model)

    def some_trial(self, chance, drawn, desk, model, trial, deep):
        """A trial with deeds and trials in it, that may fail; the model takes back what it did then."""
        before = list(model.states)
        try:
            with trial as held:
                self.assertIs(held, desk)
                for _ in range(chance.randint(0, 4)):
                    deed, values = self.some_deed(chance, drawn, model)
                    self.assertEqual(self.do(held, deed, values), model.done(deed, values))
                    self.same(desk, model)
                    if deep and chance.random() < 0.4:
                        inner = trial if chance.random() < 0.5 else desk.trial()
                        self.some_trial(chance, drawn, desk, model, inner, deep - 1)
                if chance.random() < 0.4:
                    raise Failure(deep)
        except Failure as caught:
            self.assertEqual(caught.args, (deep,))
            model.states[:] = before


class Trials(Expecting):
    def setUp(self):
        self.desk = Desk(Book.read(SWAP))
        self.desk.wish(("all", "p", "x"))
        self.desk.put_row("q", Name("x"))

    def test_deeds_that_stay(self):
        with self.desk.trial() as held:
            self.assertIs(held, self.desk)
            held.put_row("p", Name("x"))
            held.wish(("full", "p"))
        self.assertEqual((self.desk.changes, self.desk.wishes), (4, (("all", "p", "x"), ("full", "p"))))
        self.desk.undo()
        self.desk.undo()
        self.assertEqual(str(self.desk.book.row("p")), "weave(part(1, 2, x), part(0, 2, x))")

    def failing(self, error):
        with self.desk.trial() as held:
            held.put_row("q", Sign("b"))
            raise error

    def test_errors_are_passed_on(self):
        before = state_of(self.desk)
        for error in (Failure("one"), KeyError("two"), Broken(3, 4), SystemExit(5), KeyboardInterrupt(), StopIteration(),
                      UnknownName("v"), GeneratorExit()):
            caught = None
            try:
                self.failing(error)
            except BaseException as raised:
                caught = raised
            self.assertIs(caught, error)
            self.assertEqual(state_of(self.desk), before)

    def test_errors_of_deeds(self):
        before = state_of(self.desk)
        for wrong in (lambda desk: desk.put_row("p", Sign("a")), lambda desk: desk.lift(7), lambda desk: desk.wish(()),
                      lambda desk: desk.put_row("v", Name("x")), lambda desk: [desk.undo() for _ in range(9)]):
            for many in range(3):
                with self.assertRaises((Broken, InvalidNumber, InvalidWish, UnknownName, NothingToUndo)):
                    with self.desk.trial() as held:
                        for _ in range(many):
                            held.put_row("q", Sign("a"))
                        wrong(held)
                self.assertEqual(state_of(self.desk), before)

    def test_an_error_that_is_caught_within(self):
        with self.desk.trial() as held:
            held.put_row("q", Sign("a"))
            self.raised(Broken, held.put_row, "p", Sign("a"))
        self.assertEqual((self.desk.changes, str(self.desk.book.row("q"))), (3, "'a'"))

    def test_undo_below_the_beginning(self):
        before = state_of(self.desk)
        with self.assertRaises(Failure):
            with self.desk.trial() as held:
                held.undo()
                held.undo()
                self.assertEqual(held.changes, 0)
                held.put_row("q", Sign("a"))
                raise Failure
        self.assertEqual(state_of(self.desk), before)
        with self.desk.trial() as held:
            held.undo()
        self.assertEqual((self.desk.changes, str(self.desk.book.row("q"))), (1, "weave(q, x)"))

    def test_trials_within_trials(self):
        desk, before = self.desk, state_of(self.desk)
        with self.assertRaises(Failure):
            with desk.trial():
                desk.put_row("q", Sign("a"))
                inside = state_of(desk)
                with self.assertRaises(KeyError):
                    with desk.trial():
                        desk.put_row("q", Sign("b"))
                        raise KeyError
                self.assertEqual(state_of(desk), inside)
                with desk.trial():
                    desk.put_row("q", Sign("b"))
                self.assertEqual(desk.changes, 4)
                raise Failure
        self.assertEqual(state_of(desk), before)

    def test_one_trial_within_itself(self):
        desk, before = self.desk, state_of(self.desk)
        trial = desk.trial()
        for _ in range(2):
            with self.assertRaises(Failure):
                with trial as held:
                    held.put_row("q", Sign("a"))
                    inside = state_of(desk)
                    with self.assertRaises(KeyError):
                        with trial as inner:
                            inner.put_row("q", Sign("b"))
                            with trial:
                                desk.undo()
                            raise KeyError
                    self.assertEqual(state_of(desk), inside)
                    raise Failure
            self.assertEqual(state_of(desk), before)
        with trial:
            desk.undo()
        self.assertEqual(desk.changes, before[2] - 1)
        with self.assertRaises(Failure):
            with trial:
                desk.undo()
                raise Failure
        self.assertEqual(desk.changes, before[2] - 1)

    def test_tried(self):
        before = state_of(self.desk)
        told = object()

        def good(desk):
            self.assertIs(desk, self.desk)
            desk.put_row("q", Sign("a"))
            return told

        def bad(desk):
            desk.put_row("q", Sign("b"))
            desk.undo()
            desk.undo()
            raise Failure("bad")

        def both(desk):
            desk.tried(good)
            return desk.tried(bad)

        for action in (bad, both):
            caught = self.raised(Failure, self.desk.tried, action)
            self.assertEqual(caught.args, ("bad",))
            self.assertEqual(state_of(self.desk), before)
        self.assertIs(self.desk.tried(good), told)
        self.assertIs(self.desk.tried(action=good), told)
        self.assertEqual(self.desk.changes, before[2] + 2)
        self.assertIsNone(self.desk.tried(lambda desk: None))


if __name__ == "__main__":
    unittest.main()
