import random
import unittest

from tests.drawn import Drawn, draw_book, draw_plan, some_books
from tests.expecting import Expecting, Touchy
from tests.plans import build
from wovenplaces.books import Book
from wovenplaces.errors import InvalidExpression, OpenRing, PartRing, TooManyParts, UnknownName
from wovenplaces.expressions import Drop, Expression, Lead, Name, Sign, Weave, read_expression

MEMBERS = ("base", "signs", "handed", "rows", "names", "read", "row", "with_row", "__str__", "__repr__", "__eq__",
           "__len__")
TEXT = "\n".join([
    "base 2", "signs ab", "handed x y", "row t = lead('a', drop(1, w))", "row w = weave(t, turn(ba, t))",
    "row s = weave(s, x)"])


def rows_of(**texts):
    return tuple((name, read_expression(text)) for name, text in texts.items())


class Examples(Expecting):
    def test_examples_of_the_document(self):
        rows = (("s", Weave(Name("s"), Name("x"))), ("t", read_expression("lead('a', drop(1, w))")),
                ("w", read_expression("weave(t, turn(ba, t))")))
        book = Book(2, "ab", ("x",), rows)
        self.assertEqual(
            [book.names, len(book), repr(book), str(book.row("s")), Book.read(str(book)) == book,
             str(book).split("\n")[2]],
            [("s", "t", "w"), 3, "Book of 3 rows", "weave(s, x)", True, "handed x"])
        caught = self.raised(OpenRing, book.with_row, "w", read_expression("lead(x, t)"))
        self.assertEqual(caught.name, "t")
        caught = self.raised(PartRing, book.with_row, "s", read_expression("weave(part(0, 2, s), x)"))
        self.assertEqual(caught.name, "s")

    def test_text_of_the_document(self):
        rows = rows_of(t="lead('a', drop(1, w))", w="weave(t, turn(ba, t))", s="weave(s, x)")
        self.assertEqual(str(Book(2, "ab", ("x", "y"), rows)), TEXT)


class Shape(Expecting):
    def test_members_stand_in_the_class(self):
        self.assertEqual(Book.__module__, "wovenplaces.books")
        for member in MEMBERS:
            self.assertIn(member, vars(Book))


class Members(Expecting):
    def check(self, book, drawn):
        pairs = drawn.pairs()
        for value, wanted in ((book.base, drawn.base), (book.signs, drawn.signs), (book.handed, drawn.handed),
                              (book.rows, pairs), (book.names, drawn.names), (len(book), len(pairs)),
                              (str(book), drawn.text()), (repr(book), f"Book of {len(pairs)} rows"),
                              (bool(book), True)):
            self.assertIs(type(value), type(wanted))
            self.assertEqual(value, wanted)
        for name, expression in pairs:
            self.assertIsInstance(book.row(name), Expression)
            self.assertEqual(book.row(name), expression)
            self.assertEqual(book.row(name=name), expression)

    def test_drawn_books(self):
        for drawn in some_books(300):
            pairs = drawn.pairs()
            self.check(Book(drawn.base, drawn.signs, drawn.handed, pairs), drawn)
            self.check(Book(rows=pairs, handed=drawn.handed, signs=drawn.signs, base=drawn.base), drawn)
            self.check(Book.read(drawn.text()), drawn)
            self.check(Book.read(text=drawn.text()), drawn)

    def test_rows_are_kept_as_they_were_passed(self):
        rows = rows_of(s="weave(s, x)", t="lead(s, x)")
        handed = ("x", "abcdefgh")
        book = Book(2, "zb", handed, rows)
        self.assertEqual((book.rows, book.handed, book.signs), (rows, handed, "zb"))
        self.assertEqual([name for name, expression in book.rows], ["s", "t"])
        self.assertEqual((rows, handed), (rows_of(s="weave(s, x)", t="lead(s, x)"), ("x", "abcdefgh")))

    def test_one_row_and_no_handed_name(self):
        book = Book(4, "a", (), rows_of(r="'a'"))
        self.assertEqual(str(book), "base 4\nsigns a\nhanded\nrow r = 'a'")
        self.assertEqual((repr(book), len(book), bool(book)), ("Book of 1 rows", 1, True))

    def test_greatest_numbers(self):
        rows = rows_of(r="weave(s, t, u, drop(9, lead(x, z)))",
                       s="weave(r, r, r, r)", t="'d'", u="turn(dddd, y)")
        book = Book(4, "abcd", ("x", "y", "z"), rows)
        self.assertEqual((len(book), len(book.handed), len(book.signs), repr(book)), (4, 3, 4, "Book of 4 rows"))
        eight = rows_of(r="weave(weave(weave(r, r), r), drop(1, 'a'))")
        self.assertEqual(Book(2, "ab", (), eight).row("r").knots, 8)

    def test_a_sign_twice_in_a_word(self):
        book = Book(2, "abc", ("x",), rows_of(r="turn(aab, x)", s="turn(ccc, x)"))
        self.assertEqual([str(expression) for name, expression in book.rows], ["turn(aab, x)", "turn(ccc, x)"])

    def test_a_name_that_is_a_sign_too(self):
        rows = (("r", Lead(Sign("a"), Drop(1, Name("a")))),)
        self.assertEqual(str(Book(2, "ab", ("a",), rows)), "base 2\nsigns ab\nhanded a\nrow r = lead('a', drop(1, a))")

    def test_signs_in_any_order(self):
        self.assertEqual(Book(2, "zyxa", (), rows_of(r="turn(axyz, 'z')")).signs, "zyxa")

    def test_names_that_look_like_signs_and_words_of_the_text(self):
        book = Book(2, "ab", ("a", "base"), rows_of(b="weave(a, 'a')", row="lead('b', b)", signs="drop(1, row)",
                                                    handed="base"))
        self.assertEqual(Book.read(str(book)), book)
        self.assertEqual(str(book).split("\n")[2:], ["handed a base", "row b = weave(a, 'a')", "row row = lead('b', b)",
                                                     "row signs = drop(1, row)", "row handed = base"])

    def test_row_with_any_value(self):
        book = Book.read(TEXT)
        for wrong in ["x", "y", "", "a", "T", "t ", "row t", "weave", "st", "weave(s, x)", None, True, 0, 1, b"t",
                      ("t",), ["t"], {"t"}, {"t": 1}, Name("t"), book, object(), Touchy(), 10 ** 39]:
            self.given(UnknownName, wrong, book.row, wrong)
            self.given(UnknownName, wrong, book.row, name=wrong)


class Equality(Expecting):
    def test_books_with_the_same_text(self):
        for drawn in some_books(100, seed=1):
            one, other = drawn.made(), Book.read(drawn.text())
            self.assertTrue(one == other and other == one and not one != other and not other != one)

    def test_books_with_other_texts(self):
        first = Book(2, "ab", ("x", "y"), rows_of(s="weave(s, x)", t="lead('a', x)"))
        others = [
            Book(2, "ab", ("x", "y"), rows_of(t="lead('a', x)", s="weave(s, x)")),
            Book(2, "ba", ("x", "y"), rows_of(s="weave(s, x)", t="lead('a', x)")),
            Book(2, "ac", ("x", "y"), rows_of(s="weave(s, x)", t="lead('a', x)")),
            Book(2, "abc", ("x", "y"), rows_of(s="weave(s, x)", t="lead('a', x)")),
            Book(2, "ab", ("y", "x"), rows_of(s="weave(s, x)", t="lead('a', x)")),
            Book(2, "ab", ("x",), rows_of(s="weave(s, x)", t="lead('a', x)")),
            Book(2, "ab", ("x", "y"), rows_of(s="weave(s, y)", t="lead('a', x)")),
            Book(2, "ab", ("x", "y"), rows_of(s="weave(s, x)", u="lead('a', x)")),
            Book(2, "ab", ("x", "y"), rows_of(s="weave(s, x)")),
        ]
        for other in others:
            self.assertTrue(first != other and other != first and not first == other and not other == first)
        self.assertNotEqual(Book(2, "ab", ("x",), rows_of(r="drop(1, x)")),
                            Book(3, "ab", ("x",), rows_of(r="drop(1, x)")))

    def test_values_of_other_classes(self):
        book = Book.read(TEXT)
        for other in [TEXT, None, True, 0, 3, (), (2, "ab"), book.rows, [], {}, Name("s"), object(), Book,
                      (book.base, book.signs, book.handed, book.rows)]:
            self.assertTrue(book != other and other != book and not book == other and not other == book)


class WithRow(Expecting):
    def test_another_expression(self):
        book = Book.read(TEXT)
        other = book.with_row("w", read_expression("weave(s, s)"))
        self.assertEqual(str(other), TEXT.replace("weave(t, turn(ba, t))", "weave(s, s)"))
        self.assertEqual((other.names, other.base, other.signs, other.handed), (book.names, 2, "ab", ("x", "y")))
        self.assertEqual(str(book), TEXT)
        self.assertEqual(book.with_row(expression=Name("x"), name="t"), book.with_row("t", Name("x")))
        self.assertEqual(book.with_row("t", book.row("t")), book)

    def test_drawn_rows(self):
        chance = random.Random(8)
        found = set()
        for _ in range(800):
            drawn = draw_book(chance)
            book, text = drawn.made(), drawn.text()
            at = chance.randrange(len(drawn.rows))
            plan = draw_plan(chance, drawn.base, drawn.signs, drawn.handed + drawn.names * 2,
                             chance.choice((3, 8, 8, 9)), 8,
                             chance.choice((0, 1, 3)))
            rows = [(name, plan if at == place else old) for place, (name, old) in enumerate(drawn.rows)]
            changed = Drawn(drawn.base, drawn.signs, drawn.handed, tuple(rows))
            found.add(self.same(book, changed, drawn.names[at], build(plan)))
            self.assertEqual(str(book), text)
        self.assertLessEqual({None, OpenRing, PartRing, InvalidExpression}, found)

    def same(self, book, changed, name, expression):
        """The book with this row is the changed one, or the error is that of making it."""
        try:
            wanted = changed.made()
        except Exception as error:
            caught = self.raised(type(error), book.with_row, name, expression)
            self.assertEqual(vars(caught), vars(error))
            return type(error)
        self.assertEqual(book.with_row(name, expression), wanted)
        return None

    def test_unknown_name(self):
        book = Book.read(TEXT)
        for wrong in ["x", "y", "", "a", "r", "weave", None, 0, True, ("s",), ["s"], b"s", Name("s"), Touchy()]:
            self.given(UnknownName, wrong, book.with_row, wrong, Name("x"))
            self.given(UnknownName, wrong, book.with_row, wrong, "x")
            self.given(UnknownName, wrong, book.with_row, wrong, Name("v"))

    def test_no_expression(self):
        book = Book.read(TEXT)
        for wrong in ["x", "weave(s, x)", "", None, True, 0, ("s", Name("x")), [Name("x")], Expression, Touchy()]:
            self.given(InvalidExpression, wrong, book.with_row, "s", wrong)

    def test_errors_behind_then(self):
        book = Book.read(TEXT)
        caught = self.raised(UnknownName, book.with_row, "s", read_expression("weave(turn(abc, v), drop(1, u))"))
        self.assertEqual(caught.given, "v")
        for text in ["weave(s, x, x)", "part(0, 3, x)", "'c'", "turn(b, x)", "turn(bc, x)",
                     "weave(weave(x, x), weave(x, weave(x, x)))"]:
            wrong = read_expression(text)
            self.given(InvalidExpression, wrong, book.with_row, "s", wrong)
        self.assertEqual(self.raised(OpenRing, book.with_row, "s", read_expression("drop(1, s)")).name, "s")
        self.assertEqual(self.raised(OpenRing, book.with_row, "w", read_expression("drop(1, t)")).name, "t")
        self.assertEqual(self.raised(PartRing, book.with_row, "w", read_expression("weave(x, part(1, 2, t))")).name,
                         "t")
        four = read_expression("part(0, 2, part(1, 2, part(1, 2, part(0, 2, s))))")
        self.assertEqual(self.raised(TooManyParts, book.with_row, "w", four).many, 4)
        self.assertEqual(str(book), TEXT)


if __name__ == "__main__":
    unittest.main()
