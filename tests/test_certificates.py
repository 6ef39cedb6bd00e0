import random
import unittest

from tests.claims import is_right, pairs_from, rests_from
from tests.drawn import draw_book, draw_fitting, some_books
from tests.expecting import Expecting
from tests.kept import draw_kept, draw_kept_book, spoiled
from tests.plans import build, depth_of, drop, knots_in, lead, name, part, put, text_of, turn, weave
from tests.tracing import graph_of
from wovenplaces.books import Book
from wovenplaces.certificates import certify_alike, certify_full, certify_keeps, certify_place
from wovenplaces.checker import accepts
from wovenplaces.comparing import alike
from wovenplaces.errors import NotKept
from wovenplaces.expressions import read_expression
from wovenplaces.keeping import classes, keeps
from wovenplaces.shares import first_shown, silent


class Examples(Expecting):
    def test_examples_of_the_document(self):
        book = Book.read("base 2\nsigns ab\nhanded x\nrow s = weave(s, x)")
        claim, certificate = certify_alike(book, "part(1, 2, s)", "x")
        self.assertEqual(
            [claim[0], claim[2:], certificate[0], accepts(claim, certificate), accepts(claim, ())],
            ["alike", ("part(1, 2, s)", "x"), (("x", 1, 0, "ab"), ("x", 1, 0, "ab")), True, False])
        self.assertEqual(
            [certify_full(book, "s")[0][3], certify_place(book, "s", "x", 3)[0][2:],
             accepts(("parted", str(book), "s", "x", 1), ()), accepts(("parted", str(book), "s", "x", 2), ())],
            [0, ("s", "x", 3, 7), True, True])

    def test_functions_stand_in_their_file(self):
        for function in (certify_alike, certify_full, certify_keeps, certify_place):
            self.assertEqual(function.__module__, "wovenplaces.certificates")


class Certifying(Expecting):
    def pair(self, function, drawn, plans, *rest):
        """The claim and the certificate, the same ones for expressions and texts; the checker accepts them."""
        book = drawn.made()
        found = function(book, *[build(plan) for plan in plans], *rest)
        self.assertEqual(function(book, *[text_of(plan) for plan in plans], *rest), found)
        self.assertEqual([type(one) for one in (found, *found)], [tuple] * 3)
        claim, certificate = found
        self.assertEqual(claim[1:2 + len(plans)], (drawn.text(), *[text_of(plan) for plan in plans]))
        self.assertIs(accepts(claim, certificate), True, found)
        return claim, certificate

    def just(self, certificate, wanted):
        """The first one is the same, and the others are the same in some order."""
        self.assertEqual(certificate[0], wanted[0])
        self.assertEqual(sorted(certificate), sorted(wanted))

    def check_alike(self, drawn, one, other):
        claim, certificate = self.pair(certify_alike, drawn, (one, other))
        place = alike(drawn.made(), build(one), build(other))
        if place is not None:
            self.assertEqual((claim[0], claim[4:], certificate), ("parted", (place,), ()))
            return False
        self.assertEqual((claim[0], claim[4:]), ("alike", ()))
        if len(certificate) < 300:
            self.just(certificate, pairs_from(drawn, one, other, text_of))
            for at in range(0, len(certificate), len(certificate) // 5 + 1):
                self.assertIs(accepts(claim, certificate[:at] + certificate[at + 1:]), False)
        return True

    def check_full(self, drawn, plan):
        claim, certificate = self.pair(certify_full, drawn, (plan,))
        place = silent(drawn.made(), build(plan))
        if place is not None:
            self.assertEqual((claim[0], claim[3:], certificate), ("silent", (place,), ()))
            return False
        self.assertEqual((claim[0], claim[3:]), ("full", ()))
        if len(certificate) < 300:
            self.just(certificate, rests_from(drawn, plan, text_of))
        return True

    def check_place(self, drawn, plan, word, place):
        claim, certificate = self.pair(certify_place, drawn, (plan,), word, place)
        least = first_shown(drawn.made(), build(plan), word, place)
        if least is not None:
            self.assertEqual((claim[0], claim[3:], certificate), ("shown", (word, place, least), ()))
            return True
        self.assertEqual((claim[0], claim[3:]), ("lost", (word, place)))
        if len(certificate) < 300:
            self.just(certificate, rests_from(drawn, plan, text_of))
        return False

    def check_keeps(self, drawn, plan, word):
        book = drawn.made()
        if not keeps(book, build(plan), word):
            for row in (build(plan), text_of(plan)):
                self.given(NotKept, row, certify_keeps, book, row, word)
                self.given(NotKept, row, certify_keeps, handed=word, row=row, book=book)
            return False
        claim, certificate = self.pair(certify_keeps, drawn, (plan,), word)
        self.assertEqual((claim[0], claim[3:]), ("keeps", (word,)))
        self.assertTrue(is_right(claim, certificate))
        self.assertIsNotNone(classes(book, build(plan)))
        return True


class Alike(Certifying):
    def test_rows_that_are_alike(self):
        chance = random.Random(1)
        sizes = []
        for drawn in some_books(120, seed=71):
            plan = draw_fitting(chance, drawn, chance.choice((1, 3, 6, 10)))
            row = chance.choice(drawn.names)
            for other in (plan, put(plan, row, drawn.table[row]), lead(plan, drop(1, plan)), turn(drawn.signs, plan),
                          weave(*[part(at, drawn.base, plan) for at in range(drawn.base)])):
                if knots_in(other) <= 40 and len(graph_of(drawn, plan)) < 200:
                    self.assertTrue(self.check_alike(drawn, plan, other))
                    self.assertTrue(self.check_alike(drawn, other, plan))
                    sizes.append(len(certify_alike(drawn.made(), build(plan), build(other))[1]))
        self.assertGreater(max(sizes), 50)

    def test_drawn_books_and_expressions(self):
        chance = random.Random(2)
        found = [self.check_alike(drawn, draw_fitting(chance, drawn, chance.choice((1, 2, 8))), draw_fitting(
            chance, drawn, chance.choice((1, 2, 3)))) for drawn in some_books(250, seed=72)]
        self.assertGreater(found.count(True), 10)

    def test_both_kinds_of_rests_beside_each_other(self):
        book = Book.read("base 2\nsigns ab\nhanded x\nrow r = weave('a', r)\nrow n = weave(n, n)\nrow s = weave(s, x)")
        for one, other, many in [("r", "'a'", 2), ("weave(x, n)", "weave(x, turn(ba, n))", 3),
                                 ("lead(x, lead(drop(1, x), drop(2, x)))", "x", 3), ("drop(1, s)", "weave(x, drop(1, s))", 3),
                                 ("lead('a', r)", "r", 5)]:
            claim, certificate = certify_alike(book, one, read_expression(other))
            self.assertEqual((claim[0], len(certificate), accepts(claim, certificate)), ("alike", many, True), one)


class FullAndPlaces(Certifying):
    def test_drawn_books_and_expressions(self):
        chance = random.Random(3)
        found = []
        for drawn in some_books(250, seed=73):
            plan = draw_fitting(chance, drawn)
            found.append(("full", self.check_full(drawn, plan)))
            for word in drawn.handed:
                for place in (0, 1, chance.randrange(40), chance.randrange(10 ** 40)):
                    found.append(("place", self.check_place(drawn, plan, word, place)))
        for one in (("full", True), ("full", False), ("place", True), ("place", False)):
            self.assertGreater(found.count(one), 50, one)

    def test_rows_by_their_names(self):
        chance = random.Random(4)
        for drawn in some_books(100, seed=74):
            for row in drawn.names:
                self.check_full(drawn, name(row))
                for word in drawn.handed:
                    self.check_place(drawn, name(row), word, chance.randrange(100))

    def test_large_expressions(self):
        chance = random.Random(5)
        done = 0
        while done < 50:
            drawn = draw_book(chance)
            plan = draw_fitting(chance, drawn, 40)
            if knots_in(plan) > 34 and depth_of(plan) > 6:
                done += 1
                self.check_full(drawn, plan)
                self.check_alike(drawn, plan, plan)
                for word in drawn.handed:
                    self.check_place(drawn, plan, word, chance.randrange(100))
                    self.check_keeps(drawn, plan, word)

    def test_by_names_of_parameters(self):
        book = Book.read("base 2\nsigns ab\nhanded x\nrow s = weave(s, x)")
        self.assertEqual(certify_alike(other="x", one="s", book=book), (("parted", str(book), "s", "x", 0), ()))
        self.assertEqual(certify_full(row="drop(1, s)", book=book),
                         (("full", str(book), "drop(1, s)"), (("weave(s, x)", 1, 1, "ab"), ("x", 1, 0, "ab"))))
        self.assertEqual(certify_place(place=4, handed="x", row="'a'", book=book),
                         (("lost", str(book), "'a'", "x", 4), (("'a'", 1, 0, "ab"),)))
        self.assertEqual(certify_keeps(handed="x", row="x", book=book),
                         (("keeps", str(book), "x", "x"), ((1, 0, ("x", 1, 0, "ab")),)))


class Keeps(Certifying):
    def test_rows_that_are_kept_and_spoiled_ones(self):
        chance = random.Random(6)
        found = []
        for _ in range(80):
            drawn, row = draw_kept_book(chance)
            for plan in (row, draw_kept(chance, drawn, row), spoiled(chance, drawn, row)):
                for word in drawn.handed:
                    found.append(self.check_keeps(drawn, plan, word))
        self.assertGreater(min(found.count(True), found.count(False)), 60)

    def test_drawn_books_and_expressions(self):
        chance = random.Random(7)
        for drawn in some_books(150, seed=75):
            for word in drawn.handed:
                self.check_keeps(drawn, draw_fitting(chance, drawn), word)


if __name__ == "__main__":
    unittest.main()
