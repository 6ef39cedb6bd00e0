import random
import unittest

from tests.drawn import answer_of, does_fit, draw_book, draw_fitting, some_books
from tests.expecting import Expecting
from tests.kept import draw_kept, draw_kept_book, spoiled
from tests.plans import build, knots_in, name, names_in, plan_of, text_of
from tests.tracing import is_kept, pieces_of
from wovenplaces.books import Book
from wovenplaces.comparing import alike
from wovenplaces.errors import NotKept
from wovenplaces.expressions import Expression, read_expression
from wovenplaces.keeping import ahead, classes, keeps, undone

KEPT = Book.read("base 2\nsigns ab\nhanded x y\nrow p = weave(part(1, 2, x), part(0, 2, turn(ba, x)))\n"
                 "row z = weave(x, z)\nrow s = weave(s, x)\nrow q = lead(drop(1, x), lead(x, drop(2, x)))")


class Examples(Expecting):
    def test_examples_of_the_document(self):
        book = Book.read("base 2\nsigns ab\nhanded x\nrow p = weave(part(1, 2, x), part(0, 2, turn(ba, x)))\n"
                         "row z = weave(x, z)")
        self.assertEqual(
            [keeps(book, "p", "x"), keeps(book, "z", "x"), keeps(book, "drop(1, x)", "x"),
             alike(book, undone(book, "p", "x"), "x"), undone(book, "p", "x").names],
            [True, False, False, None, ("p",)])
        self.assertEqual(
            [classes(book, "z"), ahead(book, "p", "x"), ahead(book, "part(1, 2, x)", "x"),
             ahead(book, "drop(2, z)", "x"), ahead(book, "lead(x, x)", "x")],
            [None, 1, None, 1, 0])
        self.given(NotKept, "z", undone, book, "z", "x")

    def test_functions_stand_in_their_file(self):
        for function in (keeps, undone, classes, ahead):
            self.assertEqual(function.__module__, "wovenplaces.keeping")


class Checking(Expecting):
    def check_kept(self, drawn, plan, word):
        """What keeps and undone tell, of an expression and of its text; whether the row is kept."""
        book, row, text = drawn.made(), build(plan), text_of(plan)
        kept = is_kept(pieces_of(drawn, plan), word)
        note = f"{drawn.text()}\n{text}\n{word}"
        self.assertIs(keeps(book, row, word), kept, note)
        self.assertIs(keeps(handed=word, row=text, book=book), kept, note)
        if not kept:
            self.given(NotKept, row, undone, book, row, word)
            self.given(NotKept, text, undone, handed=word, row=text, book=book)
            return False
        undoing = undone(book, row, word)
        self.assertEqual(undone(handed=word, row=text, book=book), undoing)
        self.assertIsInstance(undoing, Expression)
        self.assertTrue(does_fit(drawn, plan_of(undoing)), note)
        self.assertLessEqual(set(undoing.names), names_in(plan), note)
        self.assertIsNone(alike(book, undoing, word), note)
        for place in (0, 1, 2, 3, 7, 30, 10 ** 30):
            self.assertEqual(answer_of(drawn, plan_of(undoing), place), (word, place, drawn.signs), note)
        return True

    def check_classes(self, drawn, plan, near=150):
        found = classes(drawn.made(), build(plan))
        note = f"{drawn.text()}\n{text_of(plan)}"
        self.assertEqual(classes(row=text_of(plan), book=drawn.made()), found)
        if found is None:
            self.assertIsNone(pieces_of(drawn, plan), note)
            return False
        self.assertIsNotNone(pieces_of(drawn, plan), note)
        self.assertEqual([b for _, b, _ in found], sorted({b for _, b, _ in found}), note)
        self.same_places(drawn, plan, found, near)
        return True

    def same_places(self, drawn, plan, found, near):
        """Each near place stands in one class, with its answer; far places of each class, too."""
        self.assertIs(type(found), tuple)
        places = {}
        for a, b, end in found:
            self.assertTrue(a == 0 or self.is_power(a, drawn.base))
            self.assertIs(type(end), str if len(end) == 1 else tuple)
            for m in [*range((near - b + a - 1) // a if a and b < near else 1), *([10 ** 25] if a else [])]:
                self.assertNotIn(a * m + b, places)
                places[a * m + b] = end if len(end) == 1 else (end[0], end[1] * m + end[2], end[3])
                if len(end) == 4:
                    self.assertTrue(end[1] == 0 if a == 0 else self.is_power(end[1], drawn.base))
        self.assertLessEqual(set(range(near)), set(places))
        for place, answer in places.items():
            if place < near or place > 10 ** 20:
                self.assertEqual(answer_of(drawn, plan, place), answer)

    def is_power(self, number, base):
        while number % base == 0 and number > 0:
            number //= base
        return number == 1

    def check_ahead(self, drawn, plan, word, near=200):
        found = ahead(drawn.made(), build(plan), word)
        self.assertEqual(ahead(handed=word, row=text_of(plan), book=drawn.made()), found)
        far = [near, 20 * near] if found is not None else [near]
        for many in far:
            answers = [answer_of(drawn, plan, n) for n in range(many)]
            least = max([answer[1] - n for n, answer in enumerate(answers)
                         if isinstance(answer, tuple) and answer[0] == word] + [0])
            if found == least:
                return found
        note = f"{drawn.text()}\n{text_of(plan)}\n{word}: {found} and {least}"
        self.assertIsNone(found, note)
        # Where there is no such number, far places are shown ever farther ahead.
        self.assertTrue(any(answer_of(drawn, plan, n)[1] > 2 * n - n // 2 for n in self.far_places(drawn, plan, word)),
                        note)
        return None

    def far_places(self, drawn, plan, word):
        found = [drawn.base ** 30 * m + n for m in (1, 5) for n in range(3000)]
        return [n for n in found if (answer_of(drawn, plan, n) or "")[0:1] == (word,)]


class ByHand(Checking):
    def test_kept_rows(self):
        for text, kept in [
                ("x", True), ("p", True), ("q", True), ("z", False), ("s", False), ("y", False), ("'a'", False),
                ("turn(ba, x)", True), ("turn(aa, x)", False), ("turn(bb, p)", False), ("turn(ba, p)", True),
                ("drop(1, x)", False),
                ("lead(x, x)", False), ("lead(y, x)", False), ("lead('a', x)", False), ("lead(x, drop(1, x))", True),
                ("lead(drop(1, x), drop(1, x))", False), ("lead(drop(1, x), x)", False),
                ("weave(x, x)", False), ("weave(x, y)", False),
                ("weave(part(0, 2, x), part(1, 2, x))", True), ("weave(part(0, 2, x), part(0, 2, x))", False),
                ("weave(part(0, 2, p), part(1, 2, q))", False), ("weave(part(0, 2, q), part(1, 2, q))", True),
                ("weave(drop(1, part(0, 2, x)), lead(x, part(1, 2, x)))", True),
                ("weave(drop(1, part(0, 2, x)), lead(drop(1, x), part(1, 2, x)))", False),
                ("weave(drop(1, part(0, 2, x)), part(1, 2, x))", False),
                ("weave(part(0, 2, x), weave(part(1, 2, part(1, 2, x)), part(0, 2, part(1, 2, x))))", True),
                ("weave(part(0, 2, x), weave(part(1, 2, part(1, 2, x)), part(1, 2, part(1, 2, x))))", False),
                ("weave(part(0, 2, x), turn(ab, part(1, 2, x)))", True),
                ("weave(part(0, 2, x), turn(bb, part(1, 2, x)))", False), ("part(0, 2, weave(p, z))", True),
                ("part(1, 2, weave(p, z))", False), ("drop(1, lead(z, q))", True), ("drop(2, lead(y, lead(s, x)))", True),
                ("lead(drop(9, x), lead(x, lead(drop(1, x), drop(2, x))))", False)]:
            for row in (text, read_expression(text)):
                self.assertIs(keeps(KEPT, row, "x"), kept, text)
            if kept:
                self.assertIsNone(alike(KEPT, undone(KEPT, text, "x"), "x"), text)
                self.assertLessEqual(set(undone(KEPT, text, "x").names), set(read_expression(text).names))
            else:
                self.given(NotKept, text, undone, KEPT, text, "x")
            self.assertIs(keeps(KEPT, text, "y"), text == "y")

    def test_classes(self):
        x = "x"
        for text, found in [
                ("x", ((1, 0, (x, 1, 0, "ab")),)), ("'b'", ((1, 0, "b"),)), ("turn(aa, x)", ((1, 0, "a"),)),
                ("drop(3, x)", ((1, 0, (x, 1, 3, "ab")),)), ("z", None), ("s", None), ("drop(1, s)", None),
                ("turn(aa, z)", None),
                ("lead(s, x)", None), ("part(1, 2, s)", ((1, 0, (x, 1, 0, "ab")),)), ("part(1, 2, z)", None)]:
            self.assertEqual(classes(KEPT, text), found, text)
        for text, found in [
                ("p", {0: (x, 1, "ab"), 1: (x, 0, "ba"), 2: (x, 3, "ab"), 3: (x, 2, "ba")}),
                ("lead('b', weave(y, x))", {0: "b", 1: ("y", 0, "ab"), 2: (x, 0, "ab"), 3: ("y", 1, "ab")}),
                ("q", {0: (x, 1, "ab"), 1: (x, 0, "ab"), 2: (x, 2, "ab"), 3: (x, 3, "ab")})]:
            told = {}
            for a, b, end in classes(KEPT, text):
                for m in range(4 if a else 1):
                    told[a * m + b] = end if isinstance(end, str) else (end[0], end[1] * m + end[2], end[3])
            self.assertEqual({place: told[place] for place in range(4)}, found)

    def test_walks_without_a_greatest_length(self):
        book = Book.read("base 2\nsigns ab\nhanded x\nrow r = weave('a', r)\nrow t = weave(x, weave('b', t))\n"
                         "row n = weave(n, n)\nrow u = weave(x, lead(n, x))")
        for text in ("r", "drop(5, r)", "weave(x, r)", "t", "lead('a', t)", "n", "u", "lead(n, x)", "lead(x, lead(n, x))",
                     "turn(aa, u)", "drop(1, t)"):
            self.assertIsNone(classes(book, text), text)
        for text in ("lead(r, x)", "lead(t, drop(1, x))", "part(0, 2, u)", "part(0, 2, r)", "lead(x, part(0, 2, t))"):
            self.assertIsNotNone(classes(book, text), text)
        self.assertEqual(classes(book, "lead(r, x)"), ((0, 0, "a"), (1, 1, ("x", 1, 0, "ab"))))

    def test_ahead(self):
        for text, most in [
                ("x", 0), ("y", 0), ("'a'", 0), ("drop(1, x)", 1), ("drop(9, drop(9, x))", 18), ("lead(y, x)", 0),
                ("lead(y, lead(y, drop(3, x)))", 1), ("lead(drop(7, x), x)", 7), ("part(0, 2, x)", None),
                ("weave(part(0, 2, x), y)", 0),
                ("weave(y, part(1, 2, x))", 0), ("weave(part(1, 2, x), y)", 1),
                ("weave(y, part(0, 2, part(0, 2, x)))", None),
                ("lead(drop(5, x), part(0, 2, x))", None), ("z", 0), ("s", 0), ("drop(3, s)", 1), ("p", 1), ("q", 1),
                ("turn(aa, drop(4, x))", 0),
                ("lead(turn(bb, drop(4, x)), x)", 0), ("weave(drop(9, x), drop(8, x))", 9),
                ("weave(drop(1, weave(drop(1, weave(drop(1, x), y)), y)), y)", 0), ("drop(5, weave(y, x))", 2),
                ("weave(weave(y, lead(y, drop(9, x))), y)", 3), ("weave(y, weave(y, drop(9, x)))", 6)]:
            for row in (text, read_expression(text)):
                self.assertEqual(ahead(KEPT, row, "x"), most, text)

    def test_one_sign(self):
        book = Book.read("base 2\nsigns q\nhanded x\nrow s = weave(s, x)")
        for row in ("x", "turn(q, x)", "weave(part(0, 2, x), part(1, 2, x))"):
            self.assertIs(keeps(book, row, "x"), False)
            self.assertEqual(ahead(book, row, "x"), 0)
            self.given(NotKept, row, undone, book, row, "x")
        self.assertEqual(classes(book, "drop(2, x)"), ((1, 0, "q"),))


class Drawn(Checking):
    def test_rows_that_are_kept(self):
        chance = random.Random(1)
        knots = []
        while len(knots) < 150:
            drawn = draw_book(chance)
            if not drawn.handed or len(drawn.signs) < 2:
                continue
            word = chance.choice(drawn.handed)
            plan = draw_kept(chance, drawn, name(word))
            self.assertTrue(self.check_kept(drawn, plan, word))
            self.assertTrue(self.check_classes(drawn, plan, 80))
            self.check_ahead(drawn, plan, word)
            for other in drawn.handed:
                self.assertIs(keeps(drawn.made(), build(plan), other), other == word)
            knots.append(knots_in(plan))
        self.assertGreater(max(knots), 30)

    def test_rows_of_a_book_that_are_kept(self):
        chance = random.Random(2)
        found = []
        for _ in range(120):
            drawn, row = draw_kept_book(chance)
            for plan in (row, draw_kept(chance, drawn, row), spoiled(chance, drawn, row)):
                for word in drawn.handed:
                    found.append(self.check_kept(drawn, plan, word))
                    self.check_ahead(drawn, plan, word)
                self.check_classes(drawn, plan, 60)
        self.assertGreater(found.count(True), 200)

    def test_rows_that_are_not_kept(self):
        chance = random.Random(3)
        found = []
        while len(found) < 250:
            drawn = draw_book(chance)
            if not drawn.handed or len(drawn.signs) < 2:
                continue
            word = chance.choice(drawn.handed)
            plan = spoiled(chance, drawn, draw_kept(chance, drawn, name(word), 16))
            if chance.random() < 0.3:
                plan = draw_kept(chance, drawn, plan, 60) if knots_in(plan) < 12 else plan
            if knots_in(plan) <= 40:
                found.append(self.check_kept(drawn, plan, word))
                self.check_classes(drawn, plan, 60)
                self.check_ahead(drawn, plan, word)
        self.assertGreater(found.count(False), 150)
        self.assertGreater(found.count(True), 10)

    def test_drawn_books_and_expressions(self):
        chance = random.Random(4)
        bounded, told = [], []
        for drawn in some_books(200, seed=41):
            plan = draw_fitting(chance, drawn)
            bounded.append(self.check_classes(drawn, plan, 100))
            for word in drawn.handed:
                self.check_kept(drawn, plan, word)
                told.append(self.check_ahead(drawn, plan, word))
        self.assertGreater(min(bounded.count(False), bounded.count(True)), 40)
        self.assertGreater(told.count(None), 1)
        self.assertGreater(len(set(told)), 10)


if __name__ == "__main__":
    unittest.main()
