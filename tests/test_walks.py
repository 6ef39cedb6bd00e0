import random
import unittest

from tests.drawn import answer_of, draw_book, draw_fitting, drawn_of, some_books, walk_of
from tests.expecting import Expecting
from tests.plans import build, plan_of, text_of
from wovenplaces.books import Book
from wovenplaces.expressions import Name, Weave, read_expression
from wovenplaces.walks import answers, look, walked

HEAD = "base 2\nsigns ab\nhanded x\n"


class Examples(Expecting):
    def test_examples_of_the_document(self):
        book = Book.read(HEAD + "row s = weave(s, x)\nrow t = lead('a', drop(1, w))\nrow w = weave(t, turn(ba, t))")
        self.assertEqual(
            [look(book, "s", 0), look(book, "s", 6), look(book, "turn(ba, s)", 6), look(book, "turn(bb, s)", 6),
             look(book, "t", 5)],
            [None, ("x", 1, "ab"), ("x", 1, "ba"), "b", "a"])
        self.assertEqual(
            [walked(book, "s", 2), walked(book, "s", 0)],
            [(("s", 2), ("weave(s, x)", 2), ("s", 1), ("weave(s, x)", 1), ("x", 0)),
             (("s", 0), ("weave(s, x)", 0), ("s", 0))])
        self.assertEqual(
            [list(answers(book, "t", 0, 8)), look(book, "part(1, 2, drop(3, s))", 4)],
            [["a", "b", "b", "a", "b", "a", "a", "b"], ("x", 1, "ab")])

    def test_functions_stand_in_their_file(self):
        for function in (look, walked, answers):
            self.assertEqual(function.__module__, "wovenplaces.walks")


class Looks(Expecting):
    def same(self, found, wanted):
        """Equal, and of the same kinds throughout."""
        self.assertEqual(found, wanted)
        self.assertIs(type(found), type(wanted))
        if isinstance(wanted, tuple):
            self.assertEqual([type(one) for one in found], [str, int, str])

    def test_each_kind_by_itself(self):
        book = Book(3, "abc", ("x", "y", "z"), (("r", Name("x")),))
        for text, wanted in [
                ("'b'", ["b"] * 7), ("x", list(range(7))), ("r", list(range(7))), ("drop(9, x)", list(range(9, 16))),
                ("part(2, 3, x)", [2, 5, 8, 11, 14, 17, 20]), ("part(0, 3, x)", [0, 3, 6, 9, 12, 15, 18]),
                ("lead(drop(4, x), x)", [4, 0, 1, 2, 3, 4, 5]), ("lead('a', drop(1, x))", ["a", 1, 2, 3, 4, 5, 6]),
                ("weave(x, drop(1, x), 'c')", [0, 1, "c", 1, 2, "c", 2])]:
            wanted = [("x", one, "abc") if isinstance(one, int) else one for one in wanted]
            self.assertEqual([look(book, text, place) for place in range(7)], wanted)
        self.assertEqual([look(book, "weave(x, y, z)", place) for place in range(5)],
                         [("x", 0, "abc"), ("y", 0, "abc"), ("z", 0, "abc"), ("x", 1, "abc"), ("y", 1, "abc")])

    def test_exchanges(self):
        book = Book.read("base 2\nsigns dab\nhanded x\nrow r = turn(bda, x)")
        for text, wanted in [
                ("turn(bda, 'd')", "b"), ("turn(bda, 'a')", "d"), ("turn(bda, 'b')", "a"), ("r", ("x", 5, "bda")),
                # The inner exchange comes first: d to a to d, a to d to b, b to b to a.
                ("turn(bda, turn(adb, x))", ("x", 5, "dba")), ("turn(adb, turn(bda, x))", ("x", 5, "bad")),
                ("turn(bda, turn(adb, 'a'))", "b"), ("turn(adb, turn(bda, 'a'))", "a"),
                ("turn(ddb, x)", ("x", 5, "ddb")), ("turn(ddb, turn(ddd, x))", "d"),
                ("turn(abb, turn(dda, x))", ("x", 5, "aab")),
                ("turn(dda, turn(add, x))", "d"), ("turn(aaa, x)", "a"), ("turn(bda, turn(aaa, x))", "d"),
                ("turn(aaa, turn(bda, 'b'))", "a"), ("turn(bda, r)", ("x", 5, "abd")),
                ("turn(dab, x)", ("x", 5, "dab")),
                ("drop(2, turn(bda, part(1, 2, turn(bda, x))))", ("x", 15, "abd"))]:
            self.same(look(book, text, 5), wanted)

    def test_books_with_one_sign(self):
        book = Book.read("base 2\nsigns q\nhanded x y\nrow s = weave(s, turn(q, x))")
        for text in ("x", "turn(q, y)", "'q'", "drop(3, x)", "lead(x, y)", "part(1, 2, s)", "weave(x, y)"):
            for place in (0, 1, 7, 10 ** 39):
                self.same(look(book, text, place), "q")
        self.assertEqual(list(answers(book, "s", 0, 3)), [None, "q", "q"])

    def test_silent_places(self):
        book = Book.read("base 3\nsigns ab\nhanded x\nrow r = weave(s, x, r)\nrow s = lead(t, x)\n"
                         "row t = drop(1, turn(ba, u))\nrow u = lead('a', weave(r, u, x))")
        self.assertEqual(look(book, "r", 0), None)
        self.assertEqual([look(book, "u", place) for place in range(5)],
                         ["a", None, "a", ("x", 0, "ab"), ("x", 0, "ab")])
        for text in ("turn(aa, r)", "turn(bb, drop(1, u))", "weave(r, x, x)", "lead(s, 'b')", "part(0, 3, r)"):
            self.assertIs(look(book, text, 0), None)

    def test_drawn_books_and_expressions(self):
        chance = random.Random(5)
        for drawn in some_books(500, seed=4):
            book, plan = drawn.made(), draw_fitting(chance, drawn)
            expression = build(plan)
            power = drawn.base ** chance.randint(1, 60)
            places = [*range(0, 41, chance.randint(1, 4)), power, power - 1, power + 1,
                      chance.randrange(10 ** 39, 10 ** 40),
                      chance.randrange(10 ** chance.randint(1, 39)), 10 ** 40 - 1]
            for place in places:
                wanted = answer_of(drawn, plan, place)
                self.same(look(book, expression, place), wanted)
                self.same(look(place=place, row=text_of(plan), book=book), wanted)

    def test_names_of_rows_and_handed_names(self):
        chance = random.Random(6)
        for drawn in some_books(150, seed=5):
            book = drawn.made()
            for name in drawn.handed + drawn.names:
                for place in (0, 1, 2, 5, drawn.base ** 9, chance.randrange(10 ** 40)):
                    self.same(look(book, name, place), answer_of(drawn, ("name", (name,), ()), place))
                    self.same(look(book, Name(name), place), look(book, name, place))


class Walks(Expecting):
    def check(self, book, expression, place, wanted):
        walk = walked(book, expression, place)
        self.assertEqual(walk, wanted)
        self.assertIs(type(walk), tuple)
        self.assertEqual({(type(look), type(look[0]), type(look[1])) for look in walk}, {(tuple, str, int)})
        self.assertEqual(walk[0], (str(expression), place))
        # Only the last look may have been there before.
        self.assertEqual(len(set(walk[:-1])), len(walk) - 1)
        self.assertEqual(walk[-1] in walk[:-1], look(book, expression, place) is None)

    def test_drawn_walks(self):
        chance = random.Random(7)
        for drawn in some_books(300, seed=6):
            book, plan = drawn.made(), draw_fitting(chance, drawn, chance.choice((1, 1, 3, 8, 40)))
            for place in (0, 1, 2, 3, 7, 40, drawn.base ** 7, chance.randrange(10 ** 40)):
                self.check(book, build(plan), place, walk_of(drawn, plan, place))
                self.assertEqual(walked(place=place, row=text_of(plan), book=book), walk_of(drawn, plan, place))

    def test_a_look_is_there_before_by_its_text(self):
        book = Book.read(HEAD + "row s = weave(s, x)")
        self.assertEqual(walked(book, "weave(s, x)", 0), (("weave(s, x)", 0), ("s", 0), ("weave(s, x)", 0)))
        self.assertEqual(walked(book, Weave(Name("s"), Name("x")), 0), walked(book, "weave(s, x)", 0))
        self.assertEqual(walked(book, "drop(2, lead(x, x))", 0),
                         (("drop(2, lead(x, x))", 0), ("lead(x, x)", 2), ("x", 1)))
        self.assertEqual(walked(book, "weave(weave(s, x), x)", 0),
                         (("weave(weave(s, x), x)", 0), ("weave(s, x)", 0), ("s", 0), ("weave(s, x)", 0)))

    def test_walks_that_come_round_after_several_rows(self):
        book = Book.read(HEAD + "row r = drop(2, weave(s, x))\nrow s = lead(x, t)\nrow t = turn(ba, weave(r, u))\n"
                                "row u = weave(drop(2, r), x)")
        drawn = drawn_of(book)
        for name in book.names:
            for place in range(60):
                self.check(book, Name(name), place, walk_of(drawn, ("name", (name,), ()), place))
        self.assertIs(look(book, "r", 0), None)
        self.assertEqual(walked(book, "r", 0), (
            ("r", 0), ("drop(2, weave(s, x))", 0), ("weave(s, x)", 2), ("s", 1), ("lead(x, t)", 1), ("t", 0),
            ("turn(ba, weave(r, u))", 0), ("weave(r, u)", 0), ("r", 0)))

    def test_long_walks(self):
        rows = []
        for name, after in zip("rstu", "stur"):
            rows.append(f"row {name} = drop(1, turn(ba, drop(1, turn(ba, drop(1, {after})))))")
        rows[-1] = "row u = turn(ba, weave(r, lead(x, r)))"
        book = Book.read(HEAD + "\n".join(rows))
        drawn = drawn_of(book)
        for place in (0, 5, 10 ** 6, 10 ** 39 + 7, 10 ** 40 - 1):
            self.check(book, Name("r"), place, walk_of(drawn, ("name", ("r",), ()), place))
            self.assertEqual(look(book, "r", place), answer_of(drawn, ("name", ("r",), ()), place))
        self.assertGreater(len(walked(book, "r", 10 ** 40 - 1)), 2000)


class Answers(Expecting):
    def test_as_looks(self):
        chance = random.Random(9)
        for drawn in some_books(100, seed=7):
            book, plan = drawn.made(), draw_fitting(chance, drawn)
            first, many = chance.choice((0, 1, 7, 10 ** 39)), chance.choice((0, 1, 2, 30))
            wanted = [look(book, build(plan), place) for place in range(first, first + many)]
            self.assertEqual(list(answers(book, build(plan), first, many)), wanted)
            self.assertEqual(list(answers(many=many, first=first, row=text_of(plan), book=book)), wanted)

    def test_one_by_one(self):
        book = Book.read(HEAD + "row s = weave(s, x)")
        many = answers(book, "s", 0, 10 ** 39)
        self.assertEqual([next(many) for _ in range(4)], [None, ("x", 0, "ab"), ("x", 0, "ab"), ("x", 1, "ab")])
        self.assertEqual(list(answers(book, "s", 0, 0)), [])
        one = answers(book, "s", 3, 1)
        self.assertEqual(next(one), ("x", 1, "ab"))
        self.assertEqual(list(one), [])
        self.assertIs(iter(one), one)

    def test_two_at_once(self):
        book = Book.read(HEAD + "row s = weave(s, x)")
        one, other = answers(book, "s", 0, 20), answers(book, "x", 0, 20)
        self.assertEqual([(next(one), next(other)) for _ in range(20)],
                         [(look(book, "s", place), look(book, "x", place)) for place in range(20)])


class Equal(Expecting):
    def test_equal_calls_and_books_as_they_were(self):
        chance = random.Random(10)
        for _ in range(60):
            drawn = draw_book(chance)
            book, other, plan = drawn.made(), drawn.made(), draw_fitting(chance, drawn)
            expression, place = build(plan), chance.randrange(10 ** chance.choice((1, 2, 30)))
            told = [look(book, expression, place), walked(book, expression, place),
                    list(answers(book, expression, place, 3))]
            again = [look(other, text_of(plan), place), walked(book, expression, place),
                     list(answers(other, expression, place, 3))]
            self.assertEqual(told, again)
            self.assertEqual((str(book), str(expression)), (drawn.text(), text_of(plan)))
            self.assertEqual(book.rows, drawn.pairs())

    def test_plans_of_expressions(self):
        text = "weave(part(1, 2, turn(ba, y)), lead('a', drop(3, x)))"
        self.assertEqual(text_of(plan_of(read_expression(text))), text)


if __name__ == "__main__":
    unittest.main()
