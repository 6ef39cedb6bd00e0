"""The errors of the parameters book, row, one, other, handed, place and the like, wherever they occur."""

import unittest

from tests.expecting import NO_EXPRESSIONS, NO_NUMBERS, NO_STRINGS, Expecting, Touchy
from tests.wishing import NO_WISHES
from wovenplaces.books import Book
from wovenplaces.certificates import certify_alike, certify_full, certify_keeps, certify_place
from wovenplaces.comparing import agree, alike
from wovenplaces.console import Console
from wovenplaces.desks import Desk
from wovenplaces.errors import (
    InvalidExpression, InvalidNumber, InvalidRounds, InvalidWish, NotABook, NotKept, UnknownName)
from wovenplaces.expressions import Drop, Lead, Name, Part, Sign, Turn, Weave, read_expression
from wovenplaces.keeping import ahead, classes, keeps, undone
from wovenplaces.mends import shown_against
from wovenplaces.rounds import Round, Told
from wovenplaces.shares import doubled, first_shown, lost, shown, silent, times
from wovenplaces.walks import answers, look, walked

BOOK = Book.read("base 2\nsigns ab\nhanded x y\nrow s = weave(s, x)\nrow t = lead('a', drop(1, s))")
X = Name("x")
ROUNDS = {"x": Round("", "ab"), "y": Round("b", "a")}


def asked(book, row, first, many):
    return list(answers(book, row, first, many))


CALLS = {
    look: ("book", "row", "place"),
    walked: ("book", "row", "place"),
    asked: ("book", "row", "first", "many"),
    alike: ("book", "one", "other"),
    agree: ("book", "one", "other", "place"),
    Told: ("book", "row", "given"),
    silent: ("book", "row"),
    shown: ("book", "row", "handed"),
    lost: ("book", "row", "handed"),
    doubled: ("book", "row", "handed"),
    times: ("book", "row", "handed", "place"),
    first_shown: ("book", "row", "handed", "place"),
    keeps: ("book", "row", "handed"),
    undone: ("book", "row", "handed"),
    classes: ("book", "row"),
    ahead: ("book", "row", "handed"),
    shown_against: ("book", "wish"),
    Desk: ("book",),
    certify_alike: ("book", "one", "other"),
    certify_full: ("book", "row"),
    certify_place: ("book", "row", "handed", "place"),
    certify_keeps: ("book", "row", "handed"),
    Console: ("book",),
}
# The row keeps the handed name, so that it can be undone.
RIGHT = {"book": BOOK, "row": "weave(part(1, 2, x), part(0, 2, x))", "handed": "x", "wish": ("full", "s"), "one": "s", "other": "t", "place": 3, "first": 2, "many": 5,
         "given": ROUNDS}
NOT_FOR_ALL_ROWS = (undone, certify_keeps)
NO_BOOKS = [None, True, False, 0, 2, "", str(BOOK), b"", (), BOOK.rows, [BOOK], (BOOK,), {"book": BOOK}, Book, X,
            object(), Touchy(), Round("", "a")]
NO_HANDED = [*NO_STRINGS, "", "s", "t", "z", "xx", "x ", " x", "X", "xy", "x y", "'x'", "x\n", "drop(1, x)", Name("x"), BOOK]
NO_TEXTS = ["", " ", "x ", " x", "x\n", "weave(x)", "weave(x,x)", "weave(s, x", "drop(0, x)", "drop(01, x)",
            "drop(10, x)",
            "part(2, 2, x)", "part(0, 5, x)", "turn(, x)", "turn(abcde, x)", "abcdefghi", "X", "'A'", "'ab'", "weave",
            "row s", "s = x", "'a", "lead(x, x, x)", "weave(x, x, x, x, x)", str(BOOK), "drop(1, " * 1999 + "x"]
UNKNOWN = {"v": "v", "weave(x, v)": "v", "weave(zz, aa)": "zz", "lead(x, weave(r, q))": "r", "a": "a",
           "weave(v, 'c')": "v", "part(0, 3, u)": "u", "turn(abc, lead(k, j))": "k", "weave(x, s, w)": "w", "xx": "xx"}
UNFIT = ["'c'", "weave(x, x, x)", "weave(x, x, x, s)", "part(0, 3, x)", "part(3, 4, s)", "turn(a, x)", "turn(aba, x)",
         "turn(ac, x)", "lead(x, 'z')", "drop(1, weave(x, turn(bc, t)))", "lead('c', x)", "weave(part(0, 3, x), x)"]
UNFIT_EXPRESSIONS = [Sign("c"), Weave(X, X, X), Part(0, 4, X), Turn("a", X), Turn("xy", X), Lead(X, Drop(2, Sign("d")))]


def wrong_values(parameter):
    """Pairs of an error and a value for which it is raised."""
    if parameter == "book":
        return [(NotABook, value) for value in NO_BOOKS]
    if parameter in ("row", "one", "other"):
        no_expressions = [value for value in NO_EXPRESSIONS if not isinstance(value, str)]
        return [(InvalidExpression, value) for value in [*no_expressions, BOOK, *NO_TEXTS, *UNFIT, *UNFIT_EXPRESSIONS]]
    if parameter == "handed":
        return [(UnknownName, value) for value in NO_HANDED]
    if parameter == "wish":
        return [(InvalidWish, value) for value in NO_WISHES]
    if parameter == "given":
        return [(InvalidRounds, value) for value in (None, ROUNDS["x"], {"x": ROUNDS["x"]},
                                                     {**ROUNDS, "z": ROUNDS["x"]})]
    return [(InvalidNumber, value) for value in [*NO_NUMBERS, -1, -2, -10 ** 39]]


class Single(Expecting):
    def test_right_values(self):
        for call, parameters in CALLS.items():
            call(*[RIGHT[one] for one in parameters])
            call(**{one: RIGHT[one] for one in reversed(parameters)})

    def test_one_wrong_value(self):
        for call, parameters in CALLS.items():
            for at, parameter in enumerate(parameters):
                for error, wrong in wrong_values(parameter):
                    with self.subTest(f"{call.__name__} {parameter} {error.__name__}"):
                        values = [RIGHT[one] for one in parameters]
                        values[at] = wrong
                        self.given(error, wrong, call, *values)
                        self.given(error, wrong, call, **dict(zip(parameters, values)))

    def test_unknown_names(self):
        for call, parameters in CALLS.items():
            for at, parameter in enumerate(parameters):
                if parameter in ("row", "one", "other"):
                    for text, name in UNKNOWN.items():
                        self.unknown(call, parameters, at, text, name)

    def unknown(self, call, parameters, at, text, name):
        for wrong in (text, read_expression(text)):
            values = [RIGHT[one] for one in parameters]
            values[at] = wrong
            caught = self.raised(UnknownName, call, *values)
            self.assertEqual(caught.given, name)
            self.assertIs(type(caught.given), str)

    def test_more_knots_than_rows_have_are_let(self):
        wide = "weave(weave(weave(x, s), weave(t, x)), weave(weave(x, y), weave(y, 'a')))"
        deep = "drop(9, " * 11 + "x" + ")" * 11
        for call, parameters in CALLS.items():
            for text in (wide, deep):
                values = [text if one in ("row", "one", "other") else RIGHT[one] for one in parameters]
                if call in NOT_FOR_ALL_ROWS:
                    self.given(NotKept, text, call, *values)
                else:
                    call(*values)


class Order(Expecting):
    def test_two_wrong_values(self):
        for call, parameters in CALLS.items():
            for first, one in enumerate(parameters):
                for second in range(first + 1, len(parameters)):
                    for error, wrong in wrong_values(one)[::5] + wrong_values(one)[-1:]:
                        for _, other in wrong_values(parameters[second])[::7] + wrong_values(parameters[second])[-1:]:
                            values = [RIGHT[parameter] for parameter in parameters]
                            values[first], values[second] = wrong, other
                            self.given(error, wrong, call, *values)

    def test_unknown_names_and_other_wrong_values(self):
        for call, parameters in CALLS.items():
            for at, parameter in enumerate(parameters[1:] if parameters[1:2] in (("row",), ("one",)) else (), 1):
                values = [RIGHT[one] for one in parameters]
                values[1] = "weave(v, 'c')"
                if at > 1:
                    values[at] = wrong_values(parameter)[0][1]
                self.assertEqual(self.raised(UnknownName, call, *values).given, "v")
                values[0] = None
                self.given(NotABook, None, call, *values)

    def test_unknown_in_the_first_and_in_the_second(self):
        for call in (alike, agree):
            rest = () if call == alike else (-1,)
            self.assertEqual(self.raised(UnknownName, call, BOOK, "v", "w", *rest).given, "v")
            self.given(InvalidExpression, "'c'", call, BOOK, "'c'", "w", *rest)
            self.assertEqual(self.raised(UnknownName, call, BOOK, "s", "w", *rest).given, "w")
            self.given(InvalidExpression, "", call, BOOK, "", "'c'", *rest)


class NotKeptLast(Expecting):
    def test_wrong_values_are_found_first(self):
        for call in NOT_FOR_ALL_ROWS:
            for row in ("s", "drop(1, x)", read_expression("lead(x, x)")):
                self.given(NotKept, row, call, BOOK, row, "x")
                self.given(NotKept, row, call, handed="y", row=row, book=BOOK)
                for _, wrong in wrong_values("handed"):
                    self.given(UnknownName, wrong, call, BOOK, row, wrong)
                self.given(NotABook, None, call, None, row, "x")


class Later(Expecting):
    def test_answers_asks_for_nothing_before_the_first(self):
        for values in [(None, "s", 0, 1), (BOOK, "v", 0, 1), (BOOK, "'c'", 0, 1), (BOOK, "s", -1, 1),
                       (BOOK, "s", 0, -1), (BOOK, "s", True, None), (BOOK, "s", 0, None)]:
            answers(*values)
        self.given(InvalidNumber, -1, next, answers(BOOK, "s", -1, -2))
        self.given(InvalidNumber, -2, next, answers(BOOK, "s", 1, -2))
        self.given(InvalidNumber, True, next, answers(BOOK, "s", True, None))
        self.given(NotABook, None, next, answers(None, "v", 0, 1))
        self.given(InvalidExpression, "'c'", next, answers(BOOK, "'c'", -1, 1))
        self.given(InvalidNumber, None, next, answers(BOOK, "s", 0, None))

    def test_wrong_values_are_found_where_nothing_is_asked_for(self):
        self.given(InvalidExpression, "'c'", list, answers(BOOK, "'c'", 0, 0))
        self.given(InvalidNumber, -5, list, answers(BOOK, "s", -5, 0))


if __name__ == "__main__":
    unittest.main()
