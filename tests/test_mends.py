import random
import unittest
from itertools import combinations

from tests.drawn import Drawn, draw_book, draw_fitting, draw_plan, draw_rows, fault_of, some_books
from tests.expecting import Expecting, Touchy
from tests.kept import draw_kept_book
from tests.plans import build, name, plan_of, sign, text_of
from tests.wishing import NO_WISHES, RIGHT_WISHES, WISHED, draw_wish
from wovenplaces.books import Book
from wovenplaces.comparing import alike
from wovenplaces.errors import InvalidExchanges, InvalidWish, InvalidWishes, NotABook
from wovenplaces.expressions import Name, Sign, read_expression
from wovenplaces.mends import mending, shown_against
from wovenplaces.shares import doubled, lost, silent

X = Name("x")
GOOD = (("s", X), ("p", Sign("a")))
WISHES = (("full", "s"), ("once", "p", "x"))
NO_PAIRS = [None, True, 0, "", "s", "sp", (), ("s",), ("s", X, X), ["s", X], ("s", "x"), ("s", None), ("s", WISHED),
            ("s", Touchy()), (X, X), (X, "s"), (None, X), (True, X), (0, X), (b"s", X), ("", X), ("v", X), ("x", X),
            ("y", X), ("s ", X), ("S", X), (["s"], X), (("s",), X), (Touchy(), X), ("s", ["x"]), {"s": X}, {"s"}, X,
            Touchy(), object(), (("s", X),)]
NO_TUPLES = [None, True, False, 0, 1, "", "sp", [], [("s", X)], {}, {"s": X}, set(), X, WISHED, object(), Touchy(),
             range(0)]


class Examples(Expecting):
    def test_examples_of_the_document(self):
        book = Book.read("base 2\nsigns ab\nhanded x\nrow s = weave(s, x)\nrow p = weave(part(1, 2, x), part(1, 2, x))")
        self.assertEqual(
            [shown_against(book, ("full", "s")), shown_against(book, ("all", "p", "x")),
             shown_against(book, ("once", "p", "x")), shown_against(book, ("alike", "part(1, 2, s)", "x"))],
            [0, 0, 1, None])
        exchanges = (("s", read_expression("lead('a', drop(1, x))")),
                     ("p", read_expression("weave(part(1, 2, x), part(0, 2, x))")), ("s", read_expression("x")),
                     ("p", read_expression("x")))
        self.assertEqual(mending(book, exchanges, (("full", "s"), ("all", "p", "x"))), ((0, 1), (0, 3), (1, 2), (2, 3)))

    def test_functions_stand_in_their_file(self):
        for function in (shown_against, mending):
            self.assertEqual(function.__module__, "wovenplaces.mends")


class Wishes(Expecting):
    def test_each_wish(self):
        for wish, wanted in [
                (("alike", "s", "x"), 0), (("alike", "drop(1, s)", "weave(x, drop(1, s))"), None),
                (("alike", "lead(x, x)", "x"), 1),
                (("full", "s"), 0), (("full", "drop(1, s)"), None), (("full", "weave(x, s)"), 1),
                (("full", "'a'"), None),
                (("all", "p", "x"), 0), (("all", "p", "y"), 0), (("all", "s", "x"), None), (("all", "drop(3, y)", "y"), 0),
                (("all", "lead(y, drop(2, y))", "y"), 1), (("once", "p", "x"), 1), (("once", "p", "y"), None),
                (("once", "s", "x"), 0), (("once", "lead(drop(8, x), x)", "x"), 8), (("once", "drop(3, x)", "x"), None),
                (("all", "turn(aa, x)", "x"), 0), (("once", "turn(aa, s)", "x"), None)]:
            self.assertEqual(shown_against(WISHED, wish), wanted, wish)
            self.assertEqual(shown_against(wish=wish, book=WISHED), wanted, wish)

    def test_drawn_wishes(self):
        chance = random.Random(1)
        found = {}
        for drawn in some_books(250, seed=51):
            book, wish = drawn.made(), draw_wish(chance, drawn)
            wanted = {
                "alike": lambda: alike(book, *wish[1:]), "full": lambda: silent(book, wish[1]),
                "all": lambda: lost(book, *wish[1:]).least, "once": lambda: doubled(book, *wish[1:]).least}[wish[0]]()
            self.assertEqual(shown_against(book, wish), wanted)
            found.setdefault((wish[0], wanted is None), []).append(wanted)
        self.assertEqual(len(found), 8)

    def test_no_wishes(self):
        for wish in NO_WISHES:
            self.given(InvalidWish, wish, shown_against, WISHED, wish)
            self.given(InvalidWish, wish, shown_against, wish=wish, book=WISHED)
        for wish in RIGHT_WISHES:
            shown_against(WISHED, wish)

    def test_books_with_other_names_and_signs(self):
        other = Book.read("base 3\nsigns ba\nhanded s\nrow x = weave(x, s, s)")
        self.assertEqual(shown_against(other, ("all", "x", "s")), None)
        self.assertEqual(shown_against(other, ("once", "x", "s")), 0)
        for wish in RIGHT_WISHES[4:]:
            self.given(InvalidWish, wish, shown_against, other, wish)

    def test_no_books(self):
        for wrong in (None, True, "", str(WISHED), (), Touchy(), Book):
            self.given(NotABook, wrong, shown_against, wrong, ("full", "s"))
            self.given(NotABook, wrong, shown_against, wrong, None)
            self.given(NotABook, wrong, mending, wrong, GOOD, WISHES)
            self.given(NotABook, wrong, mending, wrong, None, None)
            self.given(NotABook, wrong, mending, wishes=None, exchanges=GOOD, book=wrong)


class Indexes(Expecting):
    def index(self, wanted, error, *values, **named):
        caught = self.raised(error, mending, *values, **named)
        self.assertIs(type(caught.index), type(wanted))
        self.assertEqual(caught.index, wanted)

    def test_wrong_exchanges_as_a_whole(self):
        for wrong in [*NO_TUPLES, GOOD * 3 + GOOD[:1], (None,) * 7, (("v", X),) * 9]:
            self.index(None, InvalidExchanges, WISHED, wrong, WISHES)
            self.index(None, InvalidExchanges, WISHED, wrong, None)
            self.index(None, InvalidExchanges, wishes=WISHES, exchanges=wrong, book=WISHED)
        self.assertEqual(mending(WISHED, GOOD * 3, (("full", "x"),)), ((),))

    def test_wrong_elements_of_exchanges(self):
        for wrong in NO_PAIRS:
            for at in range(6):
                exchanges = [*GOOD, *GOOD, *GOOD]
                exchanges[at] = wrong
                self.index(at, InvalidExchanges, WISHED, tuple(exchanges), WISHES)
            self.index(0, InvalidExchanges, WISHED, (wrong,), None)
            self.index(1, InvalidExchanges, WISHED, (GOOD[0], wrong, None, wrong), [])

    def test_wrong_wishes_as_a_whole(self):
        for wrong in NO_TUPLES:
            self.index(None, InvalidWishes, WISHED, GOOD, wrong)
            self.index(None, InvalidWishes, WISHED, (), wrong)
            self.index(None, InvalidWishes, wishes=wrong, exchanges=GOOD, book=WISHED)

    def test_wrong_elements_of_wishes(self):
        for wrong in NO_WISHES:
            self.index(0, InvalidWishes, WISHED, GOOD, (wrong,))
            self.index(1, InvalidWishes, WISHED, (), (WISHES[0], wrong, None))
            self.index(3, InvalidWishes, WISHED, GOOD, (*WISHES, WISHES[0], wrong, wrong))
        self.index(0, InvalidWishes, WISHED, GOOD, ("full", "s"))
        mending(WISHED, GOOD, tuple(RIGHT_WISHES * 3))


class Mending(Expecting):
    def search(self, drawn, exchanges, wishes):
        """All least lots by a search through all lots."""
        found = []
        for many in range(len(exchanges) + 1):
            for lot in combinations(range(len(exchanges)), many):
                if not any(set(less) <= set(lot) for less in found) and self.mends(drawn, exchanges, lot, wishes):
                    found.append(lot)
        return tuple(found)

    def mends(self, drawn, exchanges, lot, wishes):
        put = {exchanges[at][0]: exchanges[at][1] for at in lot}
        if len(put) < len(lot):
            return False
        other = Drawn(drawn.base, drawn.signs, drawn.handed,
                      tuple((row, put.get(row, plan)) for row, plan in drawn.rows))
        return fault_of(other) is None and all(shown_against(other.made(), wish) is None for wish in wishes)

    def check(self, drawn, exchanges, wishes):
        made = tuple((row, build(plan)) for row, plan in exchanges)
        found = mending(drawn.made(), made, wishes)
        note = (drawn.text(), [(row, text_of(plan)) for row, plan in exchanges], wishes)
        self.assertEqual(found, self.search(drawn, exchanges, wishes), note)
        self.assertEqual(mending(wishes=wishes, exchanges=made, book=drawn.made()), found)
        self.assertEqual(list(found), sorted(found, key=lambda lot: (len(lot), lot)))
        self.assertEqual({type(lot) for lot in (found, *found)}, {tuple})
        return found

    def some_plan(self, chance, drawn):
        """Mostly what may stand in the place of a row; else what makes no book."""
        most = chance.random()
        if most < 0.75:
            return draw_plan(chance, drawn.base, drawn.signs, drawn.handed + drawn.names, chance.choice((1, 3, 7)), 7, 1)
        if most < 0.8:
            return plan_of(read_expression("weave('a', 'b', 'a', 'b')"))
        if most < 0.85:
            return name("unknown")
        return draw_fitting(chance, drawn, 12) if most < 0.9 else name(chance.choice(drawn.names))

    def test_drawn_books(self):
        chance = random.Random(2)
        lengths = []
        while len(lengths) < 250:
            drawn = draw_book(chance)
            exchanges = [(chance.choice(drawn.names), self.some_plan(chance, drawn))
                         for _ in range(chance.randint(0, 6))]
            wishes = tuple(draw_wish(chance, drawn) for _ in range(chance.randint(0, 3)))
            found = self.check(drawn, exchanges, wishes)
            lengths.append(len(found[0]) if found else None)
        for length in (0, 1, None):
            self.assertGreater(lengths.count(length), 5, length)

    def test_books_of_which_rows_were_spoiled(self):
        """The exchanges bring back rows for which the wishes hold, among others."""
        chance = random.Random(3)
        lengths = []
        while len(lengths) < 120:
            drawn, _ = draw_kept_book(chance)
            spoiled = Drawn(drawn.base, drawn.signs, drawn.handed, tuple(
                (row, sign(drawn.signs[0]) if chance.random() < 0.7 else plan) for row, plan in drawn.rows))
            if fault_of(spoiled):
                continue
            wishes = tuple(wish for wish in [draw_wish(chance, drawn) for _ in range(12)]
                           if shown_against(drawn.made(), wish) is None)[:3]
            exchanges = [*drawn.rows, *[(chance.choice(drawn.names), self.some_plan(chance, drawn)) for _ in range(2)]]
            chance.shuffle(exchanges)
            found = self.check(spoiled, exchanges, wishes)
            self.assertTrue(found)
            lengths.append(len(found[0]))
        self.assertGreater(lengths.count(1), 10)
        self.assertGreater(lengths.count(2), 3)

    def test_exchanges_that_make_no_book(self):
        chance = random.Random(4)
        found = set()
        for drawn in some_books(150, seed=52):
            other = draw_rows(chance, 4)
            exchanges = [(row, plan) for row, plan in other.rows if row in drawn.names]
            self.check(drawn, exchanges, (("full", drawn.names[0]),))
            for row, plan in exchanges:
                faulty = Drawn(drawn.base, drawn.signs, drawn.handed, tuple(
                    (one, plan if one == row else kept) for one, kept in drawn.rows))
                fault = fault_of(faulty)
                found |= {fault[0]} if fault else set()
        self.assertEqual(found - {"TooManyParts"}, {"UnknownName", "InvalidExpression", "OpenRing", "PartRing"})

    def test_one_exchange_alone_makes_no_book(self):
        book = Book.read("base 2\nsigns ab\nhanded x\nrow r = drop(1, s)\nrow s = weave(x, s)\nrow t = weave(t, x)")
        ring = (("s", read_expression("drop(1, r)")), ("r", read_expression("weave(x, x)")))
        self.assertEqual(mending(book, ring, (("alike", "s", "drop(1, weave(x, x))"),)), ((0, 1),))
        parts = (("s", read_expression("part(0, 2, t)")), ("t", read_expression("weave(s, x)")),
                 ("t", read_expression("x")))
        self.assertEqual(mending(book, parts, (("alike", "s", "part(0, 2, x)"),)), ((0, 2),))
        deep = (("r", read_expression("part(0, 2, part(1, 2, s))")), ("s", read_expression("part(0, 2, part(1, 2, x))")),
                ("s", read_expression("part(1, 2, x)")))
        self.assertEqual(mending(book, deep, (("once", "r", "x"), ("once", "s", "x"))), ((1,), (2,)))
        self.assertEqual(mending(book, deep, (("alike", "r", "part(0, 2, part(1, 2, s))"), ("full", "r"))), ((0,),))
        self.assertEqual(mending(book, deep, (("once", "s", "x"), ("alike", "r", "part(0, 2, part(1, 2, s))"))),
                         ((0, 2),))
        self.assertEqual(mending(book, parts, (("alike", "s", "part(0, 2, t)"), ("full", "t"))), ((1,), (0, 2)))

    def test_wishes_that_hold_already_and_that_never_hold(self):
        for exchanges in ((), GOOD, GOOD * 3):
            self.assertEqual(mending(WISHED, exchanges, ()), ((),))
            self.assertEqual(mending(WISHED, exchanges, (("full", "p"), ("all", "s", "x"))), ((),))
            self.assertEqual(mending(WISHED, exchanges, (("alike", "x", "y"),)), ())
            self.assertEqual(mending(WISHED, exchanges, (("alike", "x", "y"), ("full", "p"))), ())

    def test_several_exchanges_of_one_row(self):
        exchanges = (("s", X), ("s", X), ("s", Sign("a")), ("p", X), ("s", Name("p")), ("p", X))
        self.assertEqual(mending(WISHED, exchanges, (("full", "s"),)), ((0,), (1,), (2,), (4,)))
        self.assertEqual(mending(WISHED, exchanges, (("alike", "s", "x"),)), ((0,), (1,), (3, 4), (4, 5)))
        self.assertEqual(mending(WISHED, exchanges, (("alike", "s", "p"), ("full", "p"))),
                         ((4,), (0, 3), (0, 5), (1, 3), (1, 5)))

    def test_nothing_is_changed(self):
        text, exchanges, wishes = str(WISHED), GOOD * 2, tuple(RIGHT_WISHES)
        before = (repr(exchanges), repr(wishes))
        mending(WISHED, exchanges, wishes)
        self.assertEqual((str(WISHED), (repr(exchanges), repr(wishes))), (text, before))


if __name__ == "__main__":
    unittest.main()
