import random
import unittest

from tests.drawn import Drawn, draw_rows, fault_of
from tests.expecting import NO_EXPRESSIONS, NO_NUMBERS, NO_STRINGS, Expecting, Touchy
from tests.plans import knots_in
from wovenplaces.books import Book
from wovenplaces.errors import (
    InvalidExpression, InvalidHanded, InvalidNumber, InvalidRows, InvalidWord, OpenRing, PartRing, TooManyParts,
    UnknownName)
from wovenplaces.expressions import Name, read_expression

ROWS = (("s", read_expression("weave(s, x)")),)
WORDS = ("weave", "part", "drop", "lead", "turn")
NO_NAMES = [None, True, False, 0, 1, "", "A", "aB", "x ", " x", "x y", "x\n", "abcdefghi", "a1", "'a'", b"x", ("x",),
            ["x"], {"x"}, Name("x"), Touchy(), *WORDS]
NO_TUPLES = [None, True, False, 0, 1, "", "x", "xy", b"", [], ["x"], {}, {"x": 1}, set(), {"x"}, frozenset(), range(0),
             Name("x"), object(), Touchy()]


def rows_of(**texts):
    return tuple((name, read_expression(text)) for name, text in texts.items())


class BookErrors(Expecting):
    def index(self, wanted, error, *values, **named):
        caught = self.raised(error, Book, *values, **named)
        self.assertIs(type(caught.index), type(wanted))
        self.assertEqual(caught.index, wanted)

    def of_rows(self, error, attribute, wanted, rows, base=2, signs="ab", handed=("x", "y")):
        caught = self.raised(error, Book, base, signs, handed, rows)
        self.assertEqual(getattr(caught, attribute), wanted)
        self.assertIs(type(getattr(caught, attribute)), type(wanted))


class Arguments(BookErrors):
    def test_base(self):
        for wrong in [*NO_NUMBERS, 1, 5, 0, -2, 22, 10 ** 39, -10 ** 39]:
            self.given(InvalidNumber, wrong, Book, wrong, "ab", ("x",), ROWS)
            self.given(InvalidNumber, wrong, Book, base=wrong, signs="ab", handed=("x",), rows=ROWS)
        for base in (2, 3, 4):
            self.assertEqual(Book(base, "ab", (), rows_of(r="'a'")).base, base)

    def test_signs(self):
        for wrong in [*NO_STRINGS, "", "abcde", "aa", "aba", "abca", "abcc", "aB", "a b", "a\n", "a1", "ab ", "'a'",
                      " ", "abcdefgh" * 1000]:
            self.given(InvalidWord, wrong, Book, 2, wrong, ("x",), ROWS)
            self.given(InvalidWord, wrong, Book, base=2, signs=wrong, handed=("x",), rows=ROWS)
        for signs in ("a", "z", "ba", "xyz", "part", "turn", "drop"):
            self.assertEqual(Book(2, signs, ("x",), ROWS).signs, signs)

    def test_handed_as_a_whole(self):
        for wrong in [*NO_TUPLES, ("x", "y", "z", "v"), ("x",) * 4, (None,) * 4, ("x", "y", "z", "x"), ("x",) * 50]:
            self.index(None, InvalidHanded, 2, "ab", wrong, ROWS)
            self.index(None, InvalidHanded, base=2, signs="ab", handed=wrong, rows=ROWS)

    def test_elements_of_handed(self):
        for wrong in NO_NAMES:
            self.index(0, InvalidHanded, 2, "ab", (wrong,), ROWS)
            self.index(0, InvalidHanded, 2, "ab", (wrong, wrong, wrong), ROWS)
            self.index(1, InvalidHanded, 2, "ab", ("x", wrong), ROWS)
            self.index(2, InvalidHanded, 2, "ab", ("x", "y", wrong), ROWS)
        self.index(1, InvalidHanded, 2, "ab", ("x", "x"), ROWS)
        self.index(1, InvalidHanded, 2, "ab", ("x", "x", ""), ROWS)
        self.index(2, InvalidHanded, 2, "ab", ("x", "y", "x"), ROWS)
        self.index(2, InvalidHanded, 2, "ab", ("x", "y", "y"), ROWS)

    def test_rows_as_a_whole(self):
        five = tuple((name, Name("x")) for name in "rstuv")
        for wrong in [*NO_TUPLES, (), five, five * 9, (None,) * 5, list(ROWS), dict(ROWS)]:
            self.index(None, InvalidRows, 2, "ab", ("x",), wrong)
            self.index(None, InvalidRows, base=2, signs="ab", handed=("x",), rows=wrong)
        self.assertEqual(len(Book(2, "ab", ("x",), five[:4])), 4)
        self.index(0, InvalidRows, 2, "ab", ("x",), ("s", Name("x")))

    def test_elements_of_rows(self):
        pair = ("s", Name("x"))
        wrong = [*[(name, Name("x")) for name in NO_NAMES], *[("r", value) for value in NO_EXPRESSIONS],
                 ["r", Name("x")], ("r",), (), ("r", Name("x"), Name("x")), ("r", "s", Name("x")), "rx", "r", None,
                 True, 0, {"r": Name("x")}, {"r", "x"}, Name("x"), ("x", Name("x")), ("y", Name("x")), (Name("x"), "r"),
                 (("r", Name("x")),), Touchy(), (Touchy(), Touchy())]
        for one in wrong:
            self.index(0, InvalidRows, 2, "ab", ("x", "y"), (one,))
            self.index(0, InvalidRows, 2, "ab", ("x", "y"), (one, one, None, pair))
            self.index(1, InvalidRows, 2, "ab", ("x", "y"), (pair, one))
            self.index(3, InvalidRows, 2, "ab", ("x", "y"), (pair, ("t", Name("y")), ("u", Name("s")), one))
        self.index(1, InvalidRows, 2, "ab", ("x",), (pair, pair))
        self.index(2, InvalidRows, 2, "ab", ("x",), (pair, ("t", Name("x")), ("s", Name("t"))))
        self.index(3, InvalidRows, 2, "ab", ("x",), (pair, ("t", Name("x")), ("u", Name("x")), ("t", Name("x"))))

    def test_order(self):
        """Two wrong ones at once: the first one of the signature is told, and what stands behind "then" last."""
        unknown, unfit, ring = rows_of(s="v"), rows_of(s="'c'"), rows_of(s="s")
        for rows in [None, (), (None,), unknown, unfit, ring]:
            self.given(InvalidNumber, 5, Book, 5, "", ("x", "x"), rows)
            self.given(InvalidNumber, True, Book, True, "ab", ("x",), rows)
            self.given(InvalidWord, "aa", Book, 2, "aa", None, rows)
            self.given(InvalidWord, "", Book, 2, "", ("x",), rows)
            self.index(None, InvalidHanded, 2, "ab", ["x"], rows)
            self.index(1, InvalidHanded, 2, "ab", ("x", "x"), rows)
        for first in [unknown, unfit, ring]:
            self.index(1, InvalidRows, 2, "ab", ("x",), first + (None,))
            self.index(1, InvalidRows, 2, "ab", ("x",), first + first)

    def test_nothing_that_is_passed_is_changed(self):
        handed, rows = ["x"], [("s", Name("x"))]
        self.raised(InvalidHanded, Book, 2, "ab", handed, tuple(rows))
        self.raised(InvalidRows, Book, 2, "ab", ("x",), rows)
        self.assertEqual((handed, rows), (["x"], [("s", Name("x"))]))


class Fitting(BookErrors):
    def test_unknown_names(self):
        for text, wanted in [("v", "v"), ("weave(x, v)", "v"), ("weave(v, u)", "v"), ("weave(u, v)", "u"),
                             ("lead(x, drop(1, weave(zz, aa)))", "zz"), ("weave(lead(s, k), v)", "k"), ("xx", "xx"),
                             ("turn(ba, ba)", "ba"), ("a", "a"), ("lead(weave(y, c), weave(b, a))", "c")]:
            self.of_rows(UnknownName, "given", wanted, rows_of(s=text))
            self.of_rows(UnknownName, "given", wanted, rows_of(r="weave(s, x)", s=text, t="q"))
        self.of_rows(UnknownName, "given", "q", rows_of(r="q", s="v"))
        self.of_rows(UnknownName, "given", "x", rows_of(r="lead(s, x)", s="v"), handed=("y",))

    def test_rows_that_do_not_fit(self):
        unfit = ["'c'", "weave(x, x, x)", "weave(x, weave(x, y, x, y))", "part(0, 3, x)", "part(2, 4, x)", "turn(a, x)",
                 "turn(aba, x)", "turn(abab, x)", "turn(ac, x)", "turn(xy, x)", "lead(x, drop(1, 'z'))",
                 "weave(x, turn(bc, x))", "drop(9, turn(b, 'a'))", "lead('c', x)", "weave(part(1, 3, x), y)"]
        for text in unfit:
            wrong = read_expression(text)
            for rows in [(("s", wrong),), (("r", Name("x")), ("s", wrong)),
                         (("s", wrong), ("t", read_expression("'d'")))]:
                caught = self.raised(InvalidExpression, Book, 2, "ab", ("x", "y"), rows)
                self.assertIs(caught.given, wrong)

    def test_one_sign_and_three_inner_ones(self):
        self.assertEqual(len(Book(3, "c", ("x",), rows_of(s="weave(turn(c, x), part(2, 3, x), 'c')"))), 1)
        for text in ["weave(x, x)", "part(0, 2, x)", "part(3, 4, x)", "turn(cc, x)", "turn(a, x)", "'a'"]:
            wrong = read_expression(text)
            self.given(InvalidExpression, wrong, Book, 3, "c", ("x",), (("s", wrong),))

    def test_nine_knots(self):
        eight = "weave(weave(weave(x, x), x), drop(1, x))"
        self.assertEqual(Book(2, "ab", ("x",), rows_of(s=eight)).row("s").knots, 8)
        for text in ["drop(1, " * 8 + "x" + ")" * 8, "weave(weave(weave(x, x), x), drop(1, drop(1, x)))",
                     "weave(weave(weave(x, x), weave(x, x)), weave(x, x))"]:
            wrong = read_expression(text)
            self.given(InvalidExpression, wrong, Book, 2, "ab", ("x",), (("s", wrong),))
            self.given(InvalidExpression, wrong, Book, 2, "ab", ("x",), (*rows_of(r=eight), ("s", wrong)))

    def test_order(self):
        nine, unfit = read_expression("drop(1, " * 8 + "x" + ")" * 8), read_expression("'c'")
        self.of_rows(UnknownName, "given", "v", (("r", unfit), ("s", nine), ("t", Name("v")), ("u", Name("q"))))
        self.of_rows(UnknownName, "given", "v", rows_of(s="weave(v, x, 'c')"))
        self.of_rows(UnknownName, "given", "v", rows_of(r="r", s="part(0, 2, s)", t="v"))
        for one, other in ((unfit, nine), (nine, unfit)):
            self.given(InvalidExpression, one, Book, 2, "ab", ("x",), (("r", Name("r")), ("s", one), ("t", other)))


class Rings(BookErrors):
    def test_open_rings(self):
        for wanted, texts in [
                ("r", dict(r="r")), ("r", dict(r="drop(1, r)")), ("r", dict(r="turn(ba, lead(x, r))")),
                ("r", dict(r="lead(r, x)")), ("r", dict(r="lead(lead(r, x), x)")), ("r", dict(r="part(0, 2, r)")),
                ("s", dict(r="weave(r, s)", s="s")), ("s", dict(r="lead(x, s)", s="drop(1, s)")),
                ("r", dict(r="lead(x, s)", s="turn(ba, r)")), ("r", dict(r="s", s="t", t="u", u="r")),
                ("s", dict(r="s", s="t", t="u", u="s")), ("t", dict(r="t", s="x", t="lead(u, s)", u="lead('a', t)")),
                ("s", dict(r="weave(s, s)", s="lead(t, r)", t="lead(s, x)")), ("r", dict(r="lead(weave(r, r), r)"))]:
            self.of_rows(OpenRing, "name", wanted, rows_of(**texts))

    def test_rings_through_a_weave_are_let(self):
        for texts in [dict(r="weave(r, r)"), dict(r="weave(r, drop(9, r))"), dict(r="lead(x, weave(r, x))"),
                      dict(r="lead(weave(r, x), x)"), dict(r="drop(1, weave(lead(r, r), turn(ba, r)))"),
                      dict(r="s", s="t", t="weave(r, s)"), dict(r="s", s="x"),
                      dict(r="s", s="t", t="u", u="x"), dict(r="lead(s, s)", s="lead(t, t)", t="weave(r, u)", u="s"),
                      dict(r="weave(s, t)", s="weave(t, r)", t="weave(r, s)")]:
            self.assertEqual(len(Book(2, "ab", ("x", "y"), rows_of(**texts))), len(texts))

    def test_part_rings(self):
        for wanted, texts in [
                ("r", dict(r="weave(part(0, 2, r), x)")), ("r", dict(r="part(1, 2, weave(r, x))")),
                ("r", dict(r="weave(lead(part(0, 2, r), x), x)")), ("r", dict(r="lead(weave(x, part(1, 2, r)), x)")),
                ("r", dict(r="weave(s, x)", s="part(0, 2, r)")), ("r", dict(r="part(0, 2, s)", s="weave(x, r)")),
                ("s", dict(r="weave(r, s)", s="weave(x, part(0, 2, s))")),
                ("s", dict(r="part(0, 2, s)", s="weave(t, s)", t="part(1, 2, weave(s, s))")),
                ("t", dict(r="s", s="weave(s, t)", t="weave(u, x)", u="drop(1, part(0, 2, weave(t, t)))")),
                # The row comes back to itself only if it is met once more on the way.
                ("r", dict(r="weave(s, t)", s="weave(r, x)", t="part(0, 2, weave(s, x))")),
                ("r", dict(r="weave(s, x)", s="weave(t, r)", t="weave(part(0, 2, u), x)", u="s")),
                ("r", dict(r="weave(s, x)", s="weave(r, t)", t="weave(u, s)", u="part(0, 2, weave(t, x))"))]:
            self.of_rows(PartRing, "name", wanted, rows_of(**texts))

    def test_a_row_in_the_middle_is_met_twice(self):
        # From r the part is reached by s alone, and from it the way back to r is by s again.
        self.of_rows(PartRing, "name", "r", rows_of(r="weave(s, x)", s="weave(r, t)", t="part(0, 2, weave(s, x))"))
        self.of_rows(PartRing, "name", "s", rows_of(r="weave(s, x)", s="weave(x, t)", t="part(0, 2, weave(s, x))"))

    def test_parts_beside_rings_are_let(self):
        for texts in [dict(r="weave(r, part(0, 2, x))"), dict(r="weave(r, part(1, 2, s))", s="weave(s, part(0, 2, x))"),
                      dict(r="part(0, 2, s)", s="weave(s, s)"), dict(r="weave(r, s)", s="part(0, 2, weave(x, 'a'))"),
                      dict(r="weave(s, part(0, 2, t))", s="weave(r, x)", t="weave(t, u)", u="weave(t, t)"),
                      dict(r="lead(part(0, 2, x), weave(r, r))")]:
            self.assertEqual(len(Book(2, "ab", ("x", "y"), rows_of(**texts))), len(texts))

    def test_too_many_parts(self):
        nested = {many: "part(0, 2, " * many + "{}" + ")" * many for many in range(8)}
        for many, texts in [
                (4, dict(r=nested[4].format("x"))), (7, dict(r=nested[7].format("'a'"))),
                (4, dict(r=nested[2].format("s"), s=nested[2].format("x"))),
                (5, dict(r=nested[2].format("s"), s="weave(weave(s, x), lead(x, part(0, 2, t)))",
                         t=nested[2].format("y"))),
                (8, dict(r=nested[2].format("s"), s=nested[2].format("t"), t=nested[2].format("u"),
                         u=nested[2].format("x"))),
                (4, dict(r="x", s=nested[3].format("t"), t="weave(u, t)", u="lead(part(0, 2, x), x)")),
                (4, dict(r="weave(r, s)", s="weave(r, " + nested[1].format("t") + ")", t="drop(1, u)",
                         u=nested[3].format("x"))),
                (6, dict(r="lead(" + nested[4].format("x") + ", y)", s=nested[2].format("drop(1, r)")))]:
            self.of_rows(TooManyParts, "many", many, rows_of(**texts))

    def test_exactly_three_parts_are_let(self):
        for texts in [dict(r="part(0, 2, part(0, 2, part(0, 2, x)))"),
                      dict(r="part(0, 2, s)", s="part(0, 2, t)", t="part(0, 2, x)", u="weave(u, r)"),
                      dict(r="part(0, 2, part(0, 2, weave(s, t)))", s="part(0, 2, x)", t="weave(t, y)"),
                      dict(r="weave(part(0, 2, part(0, 2, x)), part(0, 2, part(0, 2, s)))", s="part(1, 2, y)")]:
            self.assertEqual(len(Book(2, "ab", ("x", "y"), rows_of(**texts))), len(texts))

    def test_order(self):
        ring, parts = "part(0, 2, weave({0}, x))", "part(0, 2, part(0, 2, part(0, 2, part(0, 2, x))))"
        self.of_rows(OpenRing, "name", "t", rows_of(r=ring.format("r"), s=parts, t="lead(t, x)"))
        self.of_rows(OpenRing, "name", "s", rows_of(r=ring.format("r"), s="part(0, 2, s)"))
        self.of_rows(PartRing, "name", "s", rows_of(r=parts, s=ring.format("t"), t=ring.format("s")))
        self.of_rows(TooManyParts, "many", 4, rows_of(r=parts, s="weave(s, x)"))
        unfit = read_expression("'c'")
        rows = (*rows_of(r="r", s="part(0, 2, weave(s, x))", t=parts), ("u", unfit))
        self.given(InvalidExpression, unfit, Book, 2, "ab", ("x",), rows)


class DrawnRows(BookErrors):
    def test_against_the_second_account(self):
        chance = random.Random(13)
        found = {}
        for at in range(4000):
            drawn = draw_rows(chance, 2)
            if at % 4 == 0:
                drawn = self.spoiled(chance, drawn)
            if at % 4 == 1:
                drawn = self.parted(chance, drawn)
            wanted = fault_of(drawn)
            found[wanted and wanted[0]] = found.get(wanted and wanted[0], 0) + 1
            self.assertEqual(self.outcome(drawn), wanted, drawn.text())
        for error in (None, "UnknownName", "InvalidExpression", "OpenRing", "PartRing", "TooManyParts"):
            self.assertGreater(found[error], 10, error)

    def spoiled(self, chance, drawn):
        """Some of the rows do not fit, or have other names, if the base, the signs or the names are others."""
        return chance.choice((
            Drawn(chance.choice((2, 3, 4)), drawn.signs, drawn.handed, drawn.rows),
            Drawn(drawn.base, "abcd"[:chance.randint(1, 4)], drawn.handed, drawn.rows),
            Drawn(drawn.base, drawn.signs, drawn.handed[:-1], drawn.rows)))

    def parted(self, chance, drawn):
        """The rows with some parts around them, as many as there is room for."""
        rows = []
        for name, plan in drawn.rows:
            for _ in range(chance.randint(0, 8 - knots_in(plan))):
                plan = ("part", (chance.randrange(drawn.base), drawn.base), (plan,))
            rows.append((name, plan))
        return Drawn(drawn.base, drawn.signs, drawn.handed, tuple(rows))

    def outcome(self, drawn):
        try:
            self.assertEqual(str(drawn.made()), drawn.text())
        except (UnknownName, InvalidExpression) as error:
            return type(error).__name__, str(error.given)
        except (OpenRing, PartRing) as error:
            return type(error).__name__, error.name
        except TooManyParts as error:
            return type(error).__name__, error.many
        return None


if __name__ == "__main__":
    unittest.main()
