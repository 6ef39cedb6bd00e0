import random
import unittest

from tests.drawn import answer_of, draw_book, draw_fitting, some_books
from tests.expecting import Expecting
from tests.plans import build, depth_of, drop, knots_in, lead, name, part, put, text_of, turn, weave
from tests.tracing import Counting
from wovenplaces.books import Book
from wovenplaces.expressions import read_expression
from wovenplaces.places import Places, numbers, steps
from wovenplaces.shares import doubled, first_shown, lost, shown, silent, times
from wovenplaces.walks import look

SHARES = Book.read("base 2\nsigns ab\nhanded x y\nrow s = weave(s, x)\nrow z = weave(x, z)\nrow n = weave(n, n)\n"
                   "row t = lead('a', weave(y, turn(bb, x)))")


class Examples(Expecting):
    def test_examples_of_the_document(self):
        book = Book.read("base 2\nsigns ab\nhanded x\nrow s = weave(s, x)\nrow z = weave(x, z)")
        self.assertEqual(
            [silent(book, "s"), silent(book, "z"), silent(book, "drop(1, s)"), lost(book, "s", "x").least,
             times(book, "s", "x", 3), first_shown(book, "s", "x", 3)],
            [0, None, None, None, None, 7])
        self.assertEqual(
            [lost(book, "weave(part(0, 2, x), part(0, 2, x))", "x") == ~shown(book, "part(0, 2, x)", "x"),
             times(book, "lead(x, x)", "x", 0), times(book, "lead(x, x)", "x", 1)],
            [True, 2, 1])
        self.assertEqual(
            [doubled(book, "lead(x, x)", "x").below, doubled(book, "z", "x") == shown(book, "z", "x"),
             times(book, "turn(aa, x)", "x", 0), first_shown(book, "part(0, 2, x)", "x", 5)],
            [(0,), True, 0, None])

    def test_functions_stand_in_their_file(self):
        for function in (silent, shown, lost, doubled, times, first_shown):
            self.assertEqual(function.__module__, "wovenplaces.shares")


class ByHand(Expecting):
    def test_shown_and_doubled_places(self):
        empty, full = numbers(), steps(0, 1)
        for text, shares, twice in [
                ("x", full, empty), ("'a'", empty, empty), ("y", empty, empty), ("drop(3, x)", steps(3, 1), empty),
                ("part(1, 2, x)", steps(1, 2), empty), ("part(0, 2, drop(3, x))", steps(3, 2), empty),
                ("drop(3, part(0, 2, x))", steps(6, 2), empty), ("lead(x, y)", numbers(0), empty),
                ("lead(drop(4, x), lead(drop(1, x), y))", numbers(1, 4), empty), ("lead(x, x)", full, numbers(0)),
                ("lead(drop(7, x), x)", full, numbers(7)), ("weave(x, x)", full, full), ("weave(x, y)", full, empty),
                ("weave(x, drop(2, x))", full, steps(2, 1)),
                ("weave(part(0, 2, x), part(1, 2, x))", full, empty),
                ("weave(part(0, 2, x), part(0, 2, part(0, 2, x)))", steps(0, 2), steps(0, 4)),
                ("turn(ba, x)", full, empty), ("turn(aa, x)", empty, empty), ("turn(bb, lead(x, x))", empty, empty),
                ("weave(turn(aa, x), turn(ba, x))", full, empty), ("s", full, full), ("z", full, full),
                ("drop(1, s)", full, full), ("n", empty, empty), ("weave(n, x)", full, empty), ("t", empty, empty),
                ("drop(2, t)", empty, empty), ("lead(s, x)", full, empty),
                ("lead(z, part(1, 2, x))", steps(1, 2) | numbers(0), empty),
                ("lead(drop(1, x), part(1, 2, x))", steps(1, 2), numbers(1)),
                ("lead(x, lead(x, lead(drop(2, x), y)))", numbers(0, 2), numbers(0))]:
            for row in (text, read_expression(text)):
                self.assertEqual(shown(SHARES, row, "x"), shares, text)
                self.assertEqual(lost(SHARES, row, "x"), ~shares, text)
                self.assertEqual(doubled(SHARES, row, "x"), twice, text)
                for found in (shown(SHARES, row, "x"), lost(SHARES, row, "x"), doubled(SHARES, row, "x")):
                    self.assertIs(type(found), Places)
        self.assertEqual(shown(SHARES, "t", "y"), full)
        self.assertEqual(shown(handed="y", row="part(0, 2, t)", book=SHARES), steps(1, 1) - steps(1, 1))
        self.assertEqual(lost(handed="y", row="part(1, 2, t)", book=SHARES), numbers())
        self.assertEqual(doubled(handed="y", row="lead(drop(1, t), t)", book=SHARES), numbers(0))

    def test_numbers_of_times(self):
        for text, place, many, least in [
                ("x", 0, 1, 0), ("x", 10 ** 39, 1, 10 ** 39), ("weave(x, x)", 7, 2, 14), ("weave(y, x)", 7, 1, 15),
                ("weave(weave(x, x), weave(x, y))", 3, 3, 12), ("lead(x, lead(x, lead(x, y)))", 0, 3, 0),
                ("lead(y, lead(drop(5, x), x))", 5, 2, 1), ("lead(y, lead(drop(5, x), x))", 6, 1, 8), ("s", 0, None, 1),
                ("s", 10 ** 30, None, 2 * 10 ** 30 + 1), ("z", 3, None, 6), ("part(0, 2, z)", 3, 1, 3),
                ("part(1, 2, z)", 3, None, 6),
                ("n", 0, 0, None), ("t", 4, 0, None), ("drop(4, x)", 3, 0, None), ("drop(4, x)", 4, 1, 0),
                ("weave(s, x)", 2, None, 5), ("turn(ba, weave(turn(aa, x), x))", 2, 1, 5),
                ("part(1, 2, drop(1, s))", 0, None, 0),
                ("lead(drop(1, s), y)", 0, 1, 0), ("weave(lead(x, y), lead(y, x))", 0, 2, 0)]:
            for row in (text, read_expression(text)):
                self.assertEqual(times(SHARES, row, "x", place), many, text)
                self.assertEqual(first_shown(SHARES, row, "x", place), least, text)
            self.assertEqual(times(place=place, handed="x", row=text, book=SHARES), many)
            self.assertEqual(first_shown(place=place, handed="x", row=text, book=SHARES), least)

    def test_silent_places(self):
        for text, least in [
                ("x", None), ("'a'", None), ("n", 0), ("s", 0), ("drop(1, s)", None), ("weave(x, n)", 1),
                ("lead(n, x)", 0), ("lead(x, n)", 1), ("lead(x, lead(y, lead(s, x)))", 2), ("turn(aa, s)", 0),
                ("weave(weave(x, weave(y, s)), x)", 6),
                ("part(0, 2, s)", 0), ("part(1, 2, s)", None), ("part(1, 2, drop(1, weave(n, x)))", 0),
                ("drop(9, drop(9, weave(x, weave(x, n))))", 1),
                ("z", None), ("weave(x, weave(x, weave(x, weave(x, weave(x, weave(x, weave(x, n)))))))", 127)]:
            for row in (text, read_expression(text)):
                self.assertEqual(silent(SHARES, row), least, text)
            self.assertEqual(silent(row=text, book=SHARES), least)

    def test_a_silent_place_far_away(self):
        # Each second place of a weave is followed to the other row, so the figures of the place are ones.
        book = Book.read("base 2\nsigns ab\nhanded x\nrow r = weave(x, weave(x, weave(x, s)))\n"
                         "row s = weave(x, weave(x, weave(x, t)))\nrow t = weave(x, weave(x, weave(x, u)))\n"
                         "row u = weave(u, x)")
        self.assertEqual(silent(book, "r"), 2 ** 9 - 1)
        row = "r"
        for many in range(1, 12):
            row = f"weave(x, {row})"
            self.assertEqual(silent(book, row), 2 ** (9 + many) - 1)
            self.assertEqual(silent(book, f"drop(9, {row})") if many < 11 else None,
                             2 ** (9 + many) - 10 if many < 11 else None)

    def test_one_sign(self):
        book = Book.read("base 2\nsigns q\nhanded x\nrow s = weave(s, x)")
        for row in ("x", "s", "lead(x, turn(q, x))", "'q'", "part(0, 2, x)"):
            self.assertEqual((shown(book, row, "x"), lost(book, row, "x"), doubled(book, row, "x")),
                             (numbers(), steps(0, 1), numbers()))
            for place in (0, 1, 10 ** 39):
                self.assertEqual((times(book, row, "x", place), first_shown(book, row, "x", place)), (0, None))
        self.assertEqual([silent(book, row) for row in ("x", "s", "drop(1, s)", "lead('q', s)")], [None, 0, None, 1])


class Drawn(Expecting):
    def check_silent(self, drawn, plan, answers):
        least = next((n for n, answer in enumerate(answers) if answer is None), None)
        found = silent(drawn.made(), build(plan))
        self.assertEqual(silent(drawn.made(), text_of(plan)), found)
        if least is None and found is not None:
            self.assertGreaterEqual(found, len(answers))
            self.assertIsNone(answer_of(drawn, plan, found))
        else:
            self.assertEqual(found, least)

    def check_place(self, drawn, plan, counting, word, place, near, sets):
        """Everything that is told of one place of a handed name; `near` has the near places that show it."""
        book, row = drawn.made(), build(plan)
        many, least = times(book, row, word, place), first_shown(book, row, word, place)
        note = f"{drawn.text()}\n{text_of(plan)}\n{word} {place}"
        self.assertEqual(many, counting.times(word, place), note)
        self.assertEqual([place in found for found in sets],
                         [many != 0, many == 0, many is None or many > 1], note)
        if near:
            self.assertEqual(least, near[0], note)
            self.assertTrue(many is None or many >= len(near), note)
        elif many == 0:
            self.assertIsNone(least, note)
        else:
            self.assertEqual(answer_of(drawn, plan, least)[:2], (word, place), note)
        return many

    def check(self, chance, drawn, plan, near=250):
        answers = [answer_of(drawn, plan, n) for n in range(near)]
        self.check_silent(drawn, plan, answers)
        book, row, counting = drawn.made(), build(plan), Counting(drawn, plan)
        found = []
        for word in drawn.handed:
            sets = [shown(book, row, word), lost(book, row, word), doubled(book, row, word)]
            places = {}
            for n, answer in enumerate(answers):
                if isinstance(answer, tuple) and answer[0] == word:
                    places.setdefault(answer[1], []).append(n)
            for place in [*range(6), *[chance.randrange(60) for _ in range(4)], *list(places)[-1:],
                          chance.randrange(10 ** 30), drawn.base ** 40 - 1]:
                found.append(self.check_place(drawn, plan, counting, word, place, places.get(place), sets))
            self.assertEqual([n in sets[0] for n in places], [True] * len(places))
        return found

    def test_drawn_books_and_expressions(self):
        chance = random.Random(1)
        found = []
        for drawn in some_books(180, seed=31):
            found += self.check(chance, drawn, draw_fitting(chance, drawn))
        counts = [found.count(many) for many in (0, 1, 2, 3, None)]
        self.assertTrue(all(many > 20 for many in counts), counts)

    def test_rows_by_their_names(self):
        chance = random.Random(2)
        for drawn in some_books(120, seed=32):
            for row in drawn.names:
                self.check(chance, drawn, name(row), 100)

    def test_large_expressions(self):
        chance = random.Random(3)
        done = 0
        while done < 40:
            drawn = draw_book(chance)
            plan = draw_fitting(chance, drawn, 40)
            if drawn.handed and knots_in(plan) > 34 and depth_of(plan) > 6:
                done += 1
                self.check(chance, drawn, plan, 120)

    def test_rows_that_show_each_place_some_times(self):
        """Weaves of parts of one row, so that places are shown just so often."""
        chance = random.Random(4)
        for drawn in some_books(120, seed=33):
            if not drawn.handed:
                continue
            word, base = name(drawn.handed[0]), drawn.base
            inner = [part(chance.randrange(base), base, chance.choice((word, drop(chance.randint(1, 4), word))))
                     for _ in range(base)]
            plan = weave(*inner)
            for ahead in range(chance.randint(0, 2)):
                plan = lead(drop(chance.randint(1, 9), word), plan)
            self.check(chance, drawn, plan, 200)

    def test_the_same_rows_otherwise(self):
        """Rows that are alike show the same places at the same places."""
        chance = random.Random(5)
        for drawn in some_books(120, seed=34):
            plan = draw_fitting(chance, drawn, 8)
            row = chance.choice(drawn.names)
            other = weave(*[part(at, drawn.base, put(plan, row, drawn.table[row])) for at in range(drawn.base)])
            book = drawn.made()
            self.assertEqual(silent(book, build(plan)), silent(book, build(other)))
            for word in drawn.handed:
                for function in (shown, lost, doubled):
                    self.assertEqual(function(book, build(plan), word), function(book, build(other), word))
                for place in (0, 1, 2, 9, 10 ** 20):
                    for function in (times, first_shown):
                        self.assertEqual(function(book, build(plan), word, place),
                                         function(book, build(other), word, place))

    def test_exchanges_to_one_sign(self):
        chance = random.Random(6)
        for drawn in some_books(80, seed=35):
            plan = draw_fitting(chance, drawn, 7)
            sign = chance.choice(drawn.signs)
            turned = turn(sign * len(drawn.signs), plan)
            book = drawn.made()
            self.assertEqual(silent(book, build(turned)), silent(book, build(plan)))
            for word in drawn.handed:
                self.assertFalse(shown(book, build(turned), word))
                self.assertEqual([times(book, build(turned), word, 2), first_shown(book, build(turned), word, 2)],
                                 [0, None])
                self.assertTrue(look(book, build(turned), 5) in (None, sign))

    def test_equal_calls_give_equal_results(self):
        chance = random.Random(7)
        for drawn in some_books(30, seed=36):
            plan = draw_fitting(chance, drawn, 9)
            book = drawn.made()
            for word in drawn.handed:
                self.assertEqual(repr(shown(book, build(plan), word)), repr(shown(book, text_of(plan), word)))
                self.assertEqual(shown(book, build(plan), word), shown(drawn.made(), text_of(plan), word))


if __name__ == "__main__":
    unittest.main()
