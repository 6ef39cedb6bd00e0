import random
import unittest

from tests.drawn import answer_of, draw_book, draw_fitting, draw_plan, draw_word, exchanged, some_books
from tests.expecting import Expecting
from tests.pairing import are_alike
from tests.plans import build, drop, knots_in, lead, name, part, put, text_of, turn, weave
from wovenplaces.books import Book
from wovenplaces.comparing import agree, alike
from wovenplaces.expressions import Name, Sign, read_expression
from wovenplaces.walks import look


class Examples(Expecting):
    def test_examples_of_the_document(self):
        book = Book.read("base 2\nsigns ab\nhanded x\nrow s = weave(s, x)\nrow z = weave(x, z)")
        self.assertEqual(
            [alike(book, "weave(part(0, 2, x), part(1, 2, x))", "x"), alike(book, "lead(x, drop(1, x))", "x"),
             alike(book, "lead(x, x)", "x")],
            [None, None, 1])
        self.assertEqual(
            [alike(book, "part(1, 2, s)", "x"), alike(book, "part(0, 2, s)", "s"), alike(book, "part(1, 2, z)", "x"),
             alike(book, "s", "part(0, 2, weave(s, z))")],
            [None, None, 1, None])
        self.assertEqual(
            [alike(book, "turn(ba, turn(ba, z))", "z"), agree(book, "z", "s", 0), agree(book, "z", "drop(1, s)", 0)],
            [None, False, True])

    def test_functions_stand_in_their_file(self):
        for function in (alike, agree):
            self.assertEqual(function.__module__, "wovenplaces.comparing")


class Comparing(Expecting):
    def both(self, book, one, other):
        """What alike tells, in both orders and of texts and expressions."""
        told = alike(book, build(one), build(other))
        self.assertEqual(alike(other=text_of(one), one=text_of(other), book=book), told)
        self.assertIn(type(told), (int, type(None)))
        return told

    def check(self, drawn, one, other, near=40, far=4):
        """The told place is the least one at which the answers are not the same, as far as looks tell."""
        book = drawn.made()
        told = self.both(book, one, other)
        least = next((place for place in range(near)
                      if answer_of(drawn, one, place) != answer_of(drawn, other, place)), None)
        note = f"{drawn.text()}\n{text_of(one)}\n{text_of(other)}"
        if told is None or told >= near:
            self.assertIsNone(least, note)
        else:
            self.assertEqual(told, least, note)
        chance = random.Random(near)
        for _ in range(far):
            place = chance.randrange(10 ** chance.randint(1, 40))
            same = answer_of(drawn, one, place) == answer_of(drawn, other, place)
            self.assertIs(agree(book, build(one), build(other), place), same)
            self.assertTrue(same or told is not None and told <= place, note)
        if told is not None:
            self.assertIs(agree(book, text_of(one), text_of(other), told), False, note)
        return told


class SameByDefinition(Comparing):
    def same(self, drawn, one, other):
        self.assertIsNone(self.both(drawn.made(), one, other), f"{drawn.text()}\n{text_of(one)}\n{text_of(other)}")

    def test_laws(self):
        chance = random.Random(1)
        for drawn in some_books(250, seed=20):
            base, signs = drawn.base, drawn.signs
            e = draw_fitting(chance, drawn, chance.choice((1, 2, 5, 9)))
            f = draw_fitting(chance, drawn, chance.choice((1, 2, 5)))
            some = [draw_fitting(chance, drawn, 3) for _ in range(base)]
            v, w = draw_word(chance, signs), draw_word(chance, signs)
            at, c, d = chance.randrange(base), chance.randint(1, 9), chance.randint(1, 9)
            both = "".join(exchanged(sign, [v, w], signs) for sign in signs)
            for one, other in [
                    (e, e), (e, lead(e, drop(1, e))), (e, lead(e, lead(drop(1, e), drop(2, e)))), (e, turn(signs, e)),
                    (drop(1, lead(f, e)), e),
                    (lead(f, e), lead(lead(f, f), e)), (drop(c, drop(d, e)), drop(d, drop(c, e))),
                    (weave(*[part(j, base, e) for j in range(base)]), e), (part(at, base, weave(*some)), some[at]),
                    (turn(v, turn(w, e)), turn(both, e)), (drop(c, part(at, base, e)),
                                                           part(at, base, self.times(c, base, e))),
                    (turn(w, weave(*some)), weave(*[turn(w, one) for one in some])),
                    (turn(w, lead(f, e)), lead(turn(w, f), turn(w, e))), (turn(w, drop(c, e)), drop(c, turn(w, e))),
                    (drop(1, weave(*some)), weave(*some[1:], drop(1, some[0]))),
                    (lead(f, weave(*some)), weave(lead(f, some[-1]), *some[:-1]))]:
                self.same(drawn, one, other)

    def test_a_handed_name_by_its_own_places(self):
        book = Book(2, "ab", ("x",), (("r", Name("x")),))
        for many in range(10):
            for ahead in (name("x"), part(1, 2, name("x")), turn("ba", name("x"))):
                other = drop(many, ahead) if many else ahead
                for at in range(many - 1, -1, -1):
                    other = lead(drop(at, ahead) if at else ahead, other)
                self.assertIsNone(self.both(book, ahead, other), text_of(other))
                self.assertIsNone(self.both(book, weave(other, ahead), weave(ahead, other)), text_of(other))

    def times(self, c, base, e):
        """The plan without its first c * base places."""
        left = c * base
        while left > 0:
            e = drop(min(9, left), e)
            left -= 9
        return e

    def test_rows_and_their_expressions(self):
        chance = random.Random(2)
        for drawn in some_books(250, seed=21):
            row = chance.choice(drawn.names)
            self.same(drawn, name(row), drawn.table[row])
            e = draw_fitting(chance, drawn, 6)
            unrolled = put(e, row, drawn.table[row])
            self.same(drawn, e, unrolled)
            # Rows woven again: names in the expression give way to expressions, as long as these are not too large.
            for _ in range(3):
                further = put(unrolled, chance.choice(drawn.names), drawn.table[chance.choice(drawn.names)])
                row = chance.choice(drawn.names)
                further = put(unrolled, row, drawn.table[row])
                if knots_in(further) <= 40:
                    unrolled = further
            self.same(drawn, e, unrolled)

    def test_copies_of_rings(self):
        """Two rows, and two that are woven of one another in just the same way."""
        chance = random.Random(3)
        found = 0
        while found < 150:
            base, signs = chance.choice((2, 2, 3, 4)), "abcd"[:chance.randint(2, 4)]
            plans = [draw_plan(chance, base, signs, ("x", "r", "s", "r", "s"), 8, 8) for _ in range(2)]
            copies = [put(put(plan, "r", name("t")), "s", name("u")) for plan in plans]
            try:
                book = Book(base, signs, ("x",), tuple(zip("rstu", [build(plan) for plan in plans + copies])))
            except ArithmeticError:
                continue
            found += 1
            for one, other in (("r", "t"), ("s", "u")):
                self.assertIsNone(self.both(book, name(one), name(other)), str(book))
                self.assertIsNone(self.both(book, drop(5, name(one)), drop(5, name(other))), str(book))

    def test_rows_that_are_the_same_by_a_round(self):
        book = Book.read("base 2\nsigns ab\nhanded x y\nrow a = weave('a', a)\nrow b = weave(b, 'a')\n"
                         "row n = weave(n, n)\nrow m = drop(1, weave(weave(m, n), drop(3, n)))")
        for one, other, wanted in [
                ("a", "lead('a', a)", None), ("drop(1, b)", "lead('a', drop(2, b))", None), ("b", "a", 0),
                ("drop(1, b)", "drop(1, a)", None), ("n", "m", None), ("lead(m, n)", "n", None),
                ("turn(ba, n)", "m", None),
                ("part(1, 2, b)", "'a'", None), ("turn(bb, a)", "'b'", None), ("a", "'a'", None),
                ("n", "turn(aa, n)", None),
                ("weave(n, x)", "weave(m, x)", None), ("drop(1, weave(n, a))", "weave('a', m)", None), ("n", "b", 1),
                ("turn(aa, x)", "'a'", None), ("turn(aa, x)", "turn(aa, y)", None), ("turn(ba, x)", "turn(ba, y)", 0)]:
            first, second = read_expression(one), read_expression(other)
            self.assertEqual([alike(book, first, second), alike(book, other, one)], [wanted, wanted], (one, other))

    def test_one_sign(self):
        book = Book.read("base 2\nsigns a\nhanded x y\nrow s = weave(s, x)\nrow t = weave('a', t)")
        for one, other, wanted in [("x", "y", None), ("x", "'a'", None), ("turn(a, x)", "y", None), ("s", "x", 0),
                                   ("drop(1, s)", "x", None), ("drop(1, s)", "t", None), ("s", "lead(s, 'a')", None)]:
            self.assertEqual([alike(book, one, other), alike(book, other, one)], [wanted, wanted], (one, other))


class OnePlaceOtherwise(Comparing):
    def nested(self, base, digits, leaf, chance, others):
        """Weaves in weaves with this leaf at the place with these digits, the least one first; others beside it."""
        plan = leaf
        for depth, digit in reversed(list(enumerate(digits))):
            inner = [others[(depth + at) % len(others)] for at in range(base)]
            inner[digit] = plan
            plan = weave(*inner)
        return plan

    def test_weaves_in_weaves(self):
        chance = random.Random(4)
        for _ in range(200):
            base = chance.choice((2, 3, 4))
            book = Book(base, "ab", ("x", "y"), (("r", Name("x")),))
            digits = [chance.randrange(base) for _ in range(chance.randint(1, {2: 11, 3: 11, 4: 9}[base]))]
            place = sum(digit * base ** at for at, digit in enumerate(digits))
            others = [name("x"), ("sign", ("b",), ()), name("y"), drop(1, name("x"))]
            one = self.nested(base, digits, name("x"), chance, others)
            for leaf, more in [(name("y"), 0), (("sign", ("a",), ()), 0), (lead(name("x"), name("x")), 1),
                               (turn("ba", name("x")), 0), (drop(1, name("x")), 0),
                               (lead(name("x"), lead(drop(1, name("x")), name("x"))), 2)]:
                other = self.nested(base, digits, leaf, chance, others)
                self.assertEqual(self.both(book, one, other), place + more * base ** len(digits))

    def test_places_of_many_figures(self):
        # At the places 11..1 (n of them) and 0 above it, r has the sign number n // 3 of abcd, again and again.
        text = ("base 2\nsigns abcd\nhanded x\nrow r = weave('a', weave('a', weave('a', turn(bcda, r))))\n"
                "row s = weave('a', weave('a', weave('a', t)))\nrow t = weave('b', weave('b', weave('b', u)))\n"
                "row u = weave('c', weave('c', weave('c', turn({}, s))))")
        for word, wanted in [("dabc", None), ("dacb", 2 ** 15 - 1), ("cabc", 2 ** 9 - 1), ("dabd", 2 ** 18 - 1),
                             ("dcbc", 2 ** 12 - 1)]:
            book = Book.read(text.format(word))
            for many in (0, 1, 5, 11):
                one, other = name("r"), name("s")
                for _ in range(many):
                    one, other = weave(name("x"), one), weave(name("x"), other)
                place = None if wanted is None else (wanted + 1) * 2 ** many - 1
                self.assertEqual(self.both(book, one, other), place)
                if place and many < 11:
                    self.assertEqual(self.both(book, drop(9, one), drop(9, other)), place - 9)
                    self.assertEqual(self.both(book, lead(name("x"), one), lead(name("x"), other)), place + 1)

    def test_places_behind_two_rounds(self):
        """Two rings of other lengths are the same up to a place of which the figures go through both."""
        text = ("base 2\nsigns ab\nhanded x\nrow r = weave('a', weave('a', turn(ba, s)))\n"
                "row s = weave('a', weave('a', weave('b', turn(ba, r))))\n"
                "row t = weave('a', weave('a', weave('b', u)))\n"
                "row u = weave('b', weave('a', weave('a', t)))")
        book = Book.read(text)
        # By the number of ones at the end of the place: aabba again and again, and aabbaa again and again.
        places = [number for number in range(300) if look(book, "r", number) != look(book, "t", number)]
        self.assertEqual(places[0], 2 ** 7 - 1)
        self.assertEqual(alike(book, "r", "t"), places[0])
        self.assertEqual(alike(book, "weave(x, drop(1, r))", "weave(x, drop(1, t))"), 2 * places[0] - 1)

    def test_silent_places(self):
        book = Book.read("base 2\nsigns ab\nhanded x\nrow n = weave(n, n)\nrow s = weave(s, x)\nrow z = weave(x, z)\n"
                         "row v = weave(v, weave(n, x))")
        for one, other, wanted in [
                ("n", "x", 0), ("n", "'a'", 0), ("s", "x", 0), ("s", "n", 1), ("drop(1, s)", "z", None),
                ("lead(n, x)", "x", 0),
                ("lead(x, n)", "x", 1), ("lead(x, n)", "lead(x, s)", 2), ("s", "lead(n, drop(1, s))", None),
                ("s", "lead(n, drop(1, v))", 1), ("v", "lead(n, drop(1, v))", None), ("v", "s", 1),
                ("part(1, 2, v)", "s", 2),
                ("turn(aa, s)", "s", 1), ("turn(aa, n)", "n", None), ("weave(n, x)", "s", 2),
                ("weave(s, x)", "s", None),
                ("lead('a', n)", "lead('b', n)", 0), ("z", "weave(x, weave(x, weave(x, weave(x, n))))", 15),
                ("part(0, 2, v)", "v", None), ("weave(x, n)", "weave(x, turn(ba, n))", None)]:
            self.assertEqual([alike(book, one, other), alike(book, other, one)], [wanted, wanted], (one, other))

    def test_unlike_handed_names_and_signs(self):
        book = Book(2, "abc", ("x", "y"), (("r", Sign("a")),))
        for one, other, wanted in [("x", "y", 0), ("x", "'a'", 0), ("'a'", "'b'", 0), ("r", "'a'", None),
                                   ("x", "turn(bca, x)", 0),
                                   ("lead(x, y)", "x", 1), ("turn(aab, x)", "turn(aac, x)", 0),
                                   ("turn(bbb, x)", "'b'", None),
                                   ("lead(drop(1, x), x)", "lead(drop(2, x), x)", 0), ("part(0, 2, x)", "x", 1),
                                   ("part(0, 2, part(1, 2, x))", "part(1, 2, part(0, 2, x))", 0),
                                   ("drop(1, part(0, 2, x))", "part(0, 2, drop(2, x))", None),
                                   ("part(1, 2, x)", "part(0, 2, drop(1, x))", None), ("drop(9, x)", "drop(8, x)", 0)]:
            self.assertEqual([alike(book, one, other), alike(book, other, one)], [wanted, wanted], (one, other))


class Drawn(Comparing):
    def test_drawn_books_and_expressions(self):
        chance = random.Random(5)
        found = set()
        for drawn in some_books(700, seed=22):
            one, other = draw_fitting(chance, drawn), draw_fitting(chance, drawn, chance.choice((1, 3, 8)))
            told = self.check(drawn, one, other)
            self.assertIn(are_alike(drawn, one, other), (None, told is None))
            found.add(told)
        self.assertGreater(len(found), 8)

    def test_drawn_expressions_with_a_knot_otherwise(self):
        chance = random.Random(6)
        found = []
        for drawn in some_books(700, seed=23):
            row = chance.choice(drawn.names)
            one = draw_fitting(chance, drawn, chance.choice((2, 5, 10)))
            other = put(one, row, put(drawn.table[row], chance.choice(drawn.handed + drawn.names),
                                      draw_fitting(chance, drawn, 2)))
            told = self.check(drawn, one, other)
            self.assertIn(are_alike(drawn, one, other), (None, told is None))
            found.append(told)
        self.assertGreater(len(set(found)), 12)
        self.assertGreater(found.count(None), 100)

    def test_rings_of_four_rows(self):
        chance = random.Random(7)
        found = []
        while len(found) < 250:
            drawn = draw_book(chance)
            if len(drawn.names) < 4 or not drawn.handed:
                continue
            one, other = chance.sample(drawn.names, 2)
            for left, right in [(name(one), name(other)), (drop(3, name(one)), lead(name(other), drop(4, name(one)))),
                                (draw_fitting(chance, drawn, 40), draw_fitting(chance, drawn, 40))]:
                found.append(self.check(drawn, left, right))
                self.assertIn(are_alike(drawn, left, right), (None, found[-1] is None))
        self.assertGreater(len(set(found)), 5)

    def test_thousands_of_questions(self):
        chance = random.Random(8)
        for drawn in some_books(200, seed=24):
            book = drawn.made()
            texts = [text_of(draw_fitting(chance, drawn)) for _ in range(4)] + list(drawn.names)[:2]
            least = {(one, other): alike(book, one, other) for one in texts for other in texts}
            for one in texts:
                self.assertIsNone(least[one, one])
                for other in texts:
                    self.assertEqual(least[one, other], least[other, one])
                    for third in texts:
                        # Where two places are not the same, the least of three is there twice.
                        sides = [least[one, other], least[other, third], least[one, third]]
                        places = sorted(side for side in sides if side is not None)
                        self.assertEqual(places[:1], places[1:2], (str(book), one, other, third))


class Agree(Comparing):
    def test_places(self):
        chance = random.Random(9)
        for drawn in some_books(150, seed=25):
            book, one, other = drawn.made(), draw_fitting(chance, drawn, 5), draw_fitting(chance, drawn, 5)
            for place in (0, 1, 2, 3, 9, drawn.base ** 20, chance.randrange(10 ** 40)):
                same = answer_of(drawn, one, place) == answer_of(drawn, other, place)
                self.assertIs(agree(book, build(one), text_of(other), place), same)
                self.assertIs(agree(place=place, other=build(one), one=text_of(other), book=book), same)

    def test_silent_places_and_exchanges(self):
        book = Book.read("base 2\nsigns ab\nhanded x y\nrow n = weave(n, n)\nrow s = weave(s, x)")
        for one, other, place, wanted in [("n", "s", 0, True), ("n", "s", 1, False), ("n", "turn(ba, n)", 7, True),
                                          ("x", "y", 4, False), ("turn(aa, x)", "turn(aa, y)", 4, True),
                                          ("s", "x", 10 ** 39, False),
                                          ("turn(aa, x)", "'a'", 4, True), ("x", "turn(ba, x)", 4, False),
                                          ("x", "drop(1, x)", 0, False), ("lead(y, x)", "lead(x, x)", 1, True),
                                          ("s", "weave(n, x)", 2 ** 100 + 1, True)]:
            self.assertIs(agree(book, one, other, place), wanted, (one, other, place))


if __name__ == "__main__":
    unittest.main()
