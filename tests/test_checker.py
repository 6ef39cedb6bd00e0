import random
import unittest

from tests.claims import is_right, pairs_from, rests_from
from tests.drawn import answer_of, draw_book, draw_fitting, some_books
from tests.expecting import Expecting, Touchy, nested_list
from tests.kept import draw_kept, draw_kept_book
from tests.plans import build, knots_in, name, part, put, text_of, weave
from tests.tracing import graph_of
from wovenplaces.books import Book
from wovenplaces.certificates import certify_keeps
from wovenplaces.checker import accepts
from wovenplaces.comparing import alike
from wovenplaces.expressions import Name, read_expression
from wovenplaces.keeping import classes, keeps
from wovenplaces.shares import first_shown, lost, silent
from wovenplaces.walks import look

TEXT = ("base 2\nsigns ab\nhanded x y\nrow s = weave(s, x)\nrow z = weave(x, z)\n"
        "row p = weave(part(1, 2, x), part(0, 2, turn(ba, x)))\nrow a = weave('a', a)")
BOOK = Book.read(TEXT)
S, Z = ("weave(s, x)", 1, 0, "ab"), ("weave(x, z)", 1, 0, "ab")
ALL = ("x", 1, 0, "ab")
P = "weave(part(1, 2, x), part(0, 2, turn(ba, x)))"
A, A_LONG = ("'a'", 1, 0, "ab"), ("weave('a', a)", 1, 0, "ab")
KEPT = ((2, 0, ("x", 2, 1, "ab")), (2, 1, ("x", 2, 0, "ba")))
RIGHT = [
    (("alike", TEXT, "x", "x"), ((ALL, ALL),)),
    (("alike", TEXT, "part(1, 2, s)", "x"), ((ALL, ALL),)),
    (("alike", TEXT, "s", "part(0, 2, s)"), ((S, S), (ALL, ALL))),
    (("alike", TEXT, "a", "'a'"), ((A_LONG, A), (A, A))),
    (("alike", TEXT, "turn(ba, 'b')", "turn(aa, x)"), ((A, A),)),
    (("alike", TEXT, "lead(x, drop(1, x))", "x"),
     ((("lead(x, drop(1, x))", 1, 0, "ab"), ALL), (("x", 1, 1, "ab"), ("x", 1, 1, "ab")))),
    (("alike", TEXT, "turn(ba, lead('b', weave(x, a)))", "lead('a', turn(ba, weave(x, a)))"),
     ((("lead('b', weave(x, a))", 1, 0, "ba"), ("lead('a', turn(ba, weave(x, a)))", 1, 0, "ab")),
      (("weave(x, a)", 1, 0, "ba"), ("weave(x, a)", 1, 0, "ba")),
      (("x", 1, 0, "ba"), ("x", 1, 0, "ba")),
      (("weave('a', a)", 1, 0, "ba"), ("weave('a', a)", 1, 0, "ba")),
      (("'b'", 1, 0, "ab"), ("'b'", 1, 0, "ab")))),
    (("alike", TEXT, "weave(part(0, 2, x), part(1, 2, x))", "x"),
     ((("weave(part(0, 2, x), part(1, 2, x))", 1, 0, "ab"), ALL), (("x", 2, 0, "ab"), ("x", 2, 0, "ab")),
      (("x", 2, 1, "ab"), ("x", 2, 1, "ab")))),
    (("parted", TEXT, "x", "y", 0), ()),
    (("parted", TEXT, "s", "x", 1), ()),
    (("parted", TEXT, "lead(x, x)", "x", 10 ** 39), ()),
    (("full", TEXT, "x"), (ALL,)),
    (("full", TEXT, "'b'"), (("'b'", 1, 0, "ab"),)),
    (("full", TEXT, "z"), (Z, ALL)),
    (("full", TEXT, "turn(aa, z)"), (("weave(x, z)", 1, 0, "aa"), A)),
    (("full", TEXT, "drop(1, s)"), (("weave(s, x)", 1, 1, "ab"), ALL)),
    (("full", TEXT, "p"), ((P, 1, 0, "ab"), ("x", 2, 1, "ab"), ("x", 2, 0, "ba"))),
    (("full", TEXT, "part(0, 2, lead('a', x))"), (("lead('a', x)", 2, 0, "ab"), ("x", 2, 1, "ab"))),
    (("full", TEXT, "drop(3, lead('a', x))"), (("x", 1, 2, "ab"),)),
    (("full", TEXT, "weave(drop(3, p), 'b')"),
     (("weave(drop(3, p), 'b')", 1, 0, "ab"), (P, 1, 3, "ab"), ("'b'", 1, 0, "ab"), ("x", 2, 2, "ba"),
      ("x", 2, 5, "ab"))),
    (("silent", TEXT, "s", 0), ()),
    (("silent", TEXT, "weave(x, s)", 1), ()),
    (("lost", TEXT, "s", "y", 0), (S, ALL)),
    (("lost", TEXT, "drop(3, x)", "x", 2), (("x", 1, 3, "ab"),)),
    (("lost", TEXT, "part(1, 2, x)", "x", 10 ** 39), (("x", 2, 1, "ab"),)),
    (("lost", TEXT, "turn(bb, x)", "x", 7), (("'b'", 1, 0, "ab"),)),
    (("lost", TEXT, "lead(drop(4, x), y)", "x", 5), (("lead(drop(4, x), y)", 1, 0, "ab"), ("y", 1, 0, "ab"))),
    (("shown", TEXT, "s", "x", 3, 7), ()),
    (("shown", TEXT, "turn(ba, drop(3, x))", "x", 10 ** 39 + 3, 10 ** 39), ()),
    (("keeps", TEXT, "x", "x"), ((1, 0, ALL),)),
    (("keeps", TEXT, "p", "x"), KEPT),
    (("keeps", TEXT, "lead(x, drop(1, x))", "x"), ((0, 0, ("x", 0, 0, "ab")), (1, 1, ("x", 1, 1, "ab")))),
    (("keeps", TEXT, "turn(ba, weave(part(0, 2, x), part(1, 2, x)))", "x"),
     ((2, 0, ("x", 2, 0, "ba")), (2, 1, ("x", 2, 1, "ba")))),
    (("keeps", TEXT, "weave(part(0, 2, x), part(1, 2, x))", "x"),
     ((4, 0, ("x", 4, 0, "ab")), (2, 1, ("x", 2, 1, "ab")), (4, 2, ("x", 4, 2, "ab")))),
    (("keeps", TEXT, "drop(1, lead(y, x))", "x"),
     ((0, 0, ("x", 0, 0, "ab")), (0, 1, ("x", 0, 1, "ab")), (1, 2, ("x", 1, 2, "ab")))),
]
# Values that are neither claims nor certificates.
ANYTHING = [None, True, False, 0, 1, -1, 10 ** 39, "", "alike", "full", TEXT, b"", b"full", (), [], {}, set(), frozenset(),
            object(), Touchy(), Name("x"), BOOK, Book, accepts, ((),), ((), ()), [()], ("x",), ("x", 1, 0, "ab"), ALL,
            (ALL,), [ALL], ((ALL, ALL),), ((ALL, ALL, ALL),), [(ALL, ALL)], ((1, 0, ALL),), nested_list(9),
            (nested_list(8),), (((((((((0,),),),),),),),),), (None,), (True,), (Touchy(),), ((Touchy(), Touchy()),),
            (([],),), (({},),), ((1, 0, Touchy()),), ((Touchy(), 1, 0, "ab"),), range(3)]


def otherwise(chance, value, spare):
    """A value that is near to this one; `spare` has tuples and strings of other claims and certificates."""
    if isinstance(value, tuple) and value and chance.random() < 0.7:
        at = chance.randrange(len(value))
        return (*value[:at], otherwise(chance, value[at], spare), *value[at + 1:])
    if isinstance(value, tuple):
        at, other = chance.randrange(len(value) + 1), chance.randrange(len(value) + 1)
        swapped = list(value)
        swapped[at:at + 1], swapped[other:other + 1] = swapped[other:other + 1], swapped[at:at + 1]
        return chance.choice([
            value[:at] + value[at + 1:], value[:at] + value[other:other + 1] + value[at:], tuple(swapped),
            (*value[:at], chance.choice(spare), *value[at:]), list(value), value[::-1],
            value[:1] + tuple(chance.sample(value[1:], len(value[1:]))), chance.choice(spare), (), value + (None,)])
    if isinstance(value, str):
        return chance.choice([*[one for one in spare if isinstance(one, str)], value + " ", value[1:], value[::-1], "", None,
                              value.upper(), value.encode(), Name("x"), [value], value.replace("ab", "aa"),
                              value.replace("a", "b"), value.replace("x", "y"), value + "\n"])
    if isinstance(value, int):
        return chance.choice([value + 1, value - 1, 2 * value, 3 * value, 4 * value, value // 2, -value, value + 4, None,
                              str(value), [value], value == 1, bool(value), 0, 1, 10 ** 30])
    return chance.choice(ANYTHING)


class Checking(Expecting):
    def told(self, claim, certificate, wanted):
        self.assertIs(accepts(claim, certificate), wanted, (claim, certificate))
        self.assertIs(accepts(certificate=certificate, claim=claim), wanted)


class Examples(Checking):
    def test_examples_of_the_document(self):
        book = Book.read("base 2\nsigns ab\nhanded x\nrow s = weave(s, x)")
        self.assertEqual([accepts(("parted", str(book), "s", "x", 1), ()), accepts(("parted", str(book), "s", "x", 2), ())],
                         [True, True])
        claim = ("alike", str(book), "part(1, 2, s)", "x")
        self.assertEqual([accepts(claim, ((ALL, ALL),)), accepts(claim, ())], [True, False])

    def test_function_stands_in_its_file(self):
        self.assertEqual(accepts.__module__, "wovenplaces.checker")


class ByHand(Checking):
    def test_right_certificates_in_any_order(self):
        chance = random.Random(1)
        for claim, certificate in RIGHT:
            self.assertTrue(is_right(claim, certificate), (claim, certificate))
            for _ in range(4):
                rest = list(certificate[1:])
                chance.shuffle(rest)
                self.told(claim, certificate[:1] + tuple(rest), True)
            if claim[0] == "keeps":
                self.told(claim, certificate[::-1], True)

    def test_elements_left_out_or_twice(self):
        for claim, certificate in RIGHT:
            for at in range(len(certificate)):
                self.told(claim, certificate[:at] + certificate[at + 1:], False)
                for to in range(len(certificate) + 1):
                    self.told(claim, certificate[:to] + certificate[at:at + 1] + certificate[to:], False)

    def test_the_first_one_in_another_place(self):
        for claim, certificate in RIGHT:
            if claim[0] != "keeps":
                for at in range(1, len(certificate)):
                    self.told(claim, certificate[1:at + 1] + certificate[:1] + certificate[at + 1:], False)

    def test_more_than_is_needed(self):
        """Rests and pairs that hold by themselves may stand behind the others."""
        others = {"full": [ALL, ("y", 4, 3, "ba"), A, ("weave(x, y)", 1, 7, "ab")], "lost": [A, ("y", 8, 5, "ab")],
                  "alike": [(ALL, ALL), (A, A), (("y", 2, 1, "ba"), ("y", 2, 1, "ba"))]}
        for claim, certificate in RIGHT:
            for one in others.get(claim[0], []):
                more = () if one != ("weave(x, y)", 1, 7, "ab") else (("x", 1, 4, "ab"), ("y", 1, 3, "ab"))
                if one not in certificate and not set(more) & set(certificate):
                    self.told(claim, (*certificate, *more, one), True)
                    self.told(claim, (one, *more, *certificate), False)
                    self.told(claim, (*certificate, one, *more, one), False)
            for one in (("x", 3, 0, "ab"), ("x", 1, 0, "aa"), ("'a'", 2, 0, "ab"), ("'a'", 1, 1, "ab"), ("'a'", 1, 0, "ba"),
                        ("'b'", 1, 0, "ba"), ("s", 1, 0, "ab"), ("turn(ba, x)", 1, 0, "ab"), ("drop(1, x)", 1, 0, "ab"),
                        ("weave(s, x)", 2, 0, "ab"), ("lead(x, x)", 1, 1, "ab"), ("v", 1, 0, "ab"), ("'c'", 1, 0, "ab"),
                        ("x", 1, 0, "abc"), ("x", 1, 0, "ac"), ("x", 1, 0, "a"), ("x", 1, -1, "ab"), ("x", 0, 0, "ab"),
                        ("x", 1, 0), ("x", 1, 0, "ab", 0), ["x", 1, 0, "ab"], ("x", True, 0, "ab"), ("x", 1, False, "ab"),
                        ("x ", 1, 0, "ab"), (Name("x"), 1, 0, "ab"), ("weave(x, y, x)", 1, 0, "ab"), ("x", 6, 0, "ab"),
                        ("x", 2, 10 ** 39, "aa"), ("x", "1", 0, "ab"), (b"x", 1, 0, "ab"), ("x", 1, 0, ("a", "b"))):
                self.told(claim, (*certificate, one), False)
                self.told(claim, (*certificate, (one, one)), False)
                self.told(claim, (*certificate, (ALL, one)), False)
                self.told(claim, (*certificate, (one, ALL)), False)

    def test_another_book(self):
        other = "base 2\nsigns ba\nhanded x y\nrow s = weave(x, s)\nrow z = weave(z, x)\nrow p = weave(p, p)\nrow a = x"
        for claim, certificate in RIGHT:
            self.told((claim[0], other, *claim[2:]), certificate, is_right((claim[0], other, *claim[2:]), certificate))
            for wrong in (TEXT + "\n", TEXT[1:], "", None, BOOK, TEXT.replace("base 2", "base 3"), [TEXT], b"base 2",
                          TEXT.replace("handed x y", "handed"), TEXT.replace("signs ab", "signs cd"), True, Touchy(),
                          TEXT.replace("weave('a', a)", "drop(1, a)"), TEXT.split("\n"), 0):
                self.told((claim[0], wrong, *claim[2:]), certificate, False)

    def test_wrong_claims(self):
        for claim, certificate in RIGHT:
            for at in range(len(claim)):
                self.told(claim[:at] + claim[at + 1:], certificate, False)
                self.told(claim[:at] + claim[at:at + 1] + claim[at:], certificate, False)
                for wrong in [value for value in ANYTHING if not isinstance(value, (int, str)) or isinstance(value, bool)]:
                    self.told(claim[:at] + (wrong,) + claim[at + 1:], certificate, False)
            for wrong in (list(claim), claim[::-1], (), (claim,), {claim[0]: claim[1:]}, claim[0], (list(claim),)):
                self.told(wrong, certificate, False)
            for word in ("alike", "parted", "full", "silent", "lost", "shown", "keeps", "all", "once", "", "Alike", "full "):
                self.told((word, *claim[1:]), certificate, is_right((word, *claim[1:]), certificate))

    def test_handed_names_and_places_of_claims(self):
        for word, certificate, more in (("lost", (S, ALL), (0,)), ("shown", (), (0, 1)), ("keeps", ((1, 0, ALL),), ())):
            row = "x" if word == "keeps" else "s"
            for wrong in ("s", "z", "v", "", "x ", "'a'", "xy", Name("x"), None, True, 0, ("x",), ["x"], b"x", Touchy()):
                self.told((word, TEXT, row, wrong, *more), certificate, False)
        for wrong in (-1, True, False, None, "0", (0,), [0], Touchy(), 10 ** 39 - 1):
            self.told(("silent", TEXT, "s", wrong), (), False)
            self.told(("parted", TEXT, "lead('a', y)", "lead(x, y)", wrong), (), False)
            self.told(("shown", TEXT, "x", "x", wrong, 3), (), False)
            self.told(("shown", TEXT, "x", "x", 3, wrong), (), False)
        for place in (0, 1, True, False):
            self.told(("shown", TEXT, "x", "x", place, place), (), not isinstance(place, bool))
            self.told(("lost", TEXT, "y", "x", place), (("y", 1, 0, "ab"),), not isinstance(place, bool))

    def test_claims_that_are_not_true(self):
        for claim in [("parted", TEXT, "x", "x", 3), ("parted", TEXT, "s", "part(0, 2, s)", 10 ** 39),
                      ("silent", TEXT, "s", 1), ("silent", TEXT, "x", 0), ("shown", TEXT, "s", "x", 3, 6),
                      ("shown", TEXT, "s", "y", 3, 7), ("shown", TEXT, "s", "x", 2, 7), ("shown", TEXT, "s", "x", 0, 0),
                      ("shown", TEXT, "turn(aa, x)", "x", 0, 0), ("shown", TEXT, "'a'", "x", 0, 0)]:
            for certificate in ((), (ALL,), ((ALL, ALL),), None):
                self.told(claim, certificate, False)
        for claim, certificate in [
                (("full", TEXT, "s"), (S, ALL)), (("full", TEXT, "lead(s, x)"), (("lead(s, x)", 1, 0, "ab"), ALL)),
                (("lost", TEXT, "s", "x", 3), (S, ALL)), (("lost", TEXT, "drop(3, x)", "x", 3), (("x", 1, 3, "ab"),)),
                (("lost", TEXT, "lead(drop(4, x), y)", "x", 4), (("lead(drop(4, x), y)", 1, 0, "ab"), ("y", 1, 0, "ab"))),
                (("lost", TEXT, "part(1, 2, x)", "x", 10 ** 39 + 1), (("x", 2, 1, "ab"),)),
                (("alike", TEXT, "x", "y"), ((ALL, ("y", 1, 0, "ab")),)),
                (("alike", TEXT, "x", "turn(ba, x)"), ((ALL, ("x", 1, 0, "ba")),)),
                (("alike", TEXT, "lead(x, x)", "x"), ((("lead(x, x)", 1, 0, "ab"), ALL), (ALL, ("x", 1, 1, "ab")))),
                (("alike", TEXT, "a", "'b'"), ((A_LONG, ("'b'", 1, 0, "ab")), (A, ("'b'", 1, 0, "ab")))),
                (("keeps", TEXT, "drop(1, x)", "x"), ((1, 0, ("x", 1, 1, "ab")),)),
                (("keeps", TEXT, "turn(aa, x)", "x"), ((1, 0, ("x", 1, 0, "aa")),)),
                (("keeps", TEXT, "lead(x, x)", "x"), ((0, 0, ("x", 0, 0, "ab")), (1, 1, ("x", 1, 0, "ab")))),
                (("keeps", TEXT, "weave(x, x)", "x"), ((2, 0, ALL), (2, 1, ALL)))]:
            self.told(claim, certificate, False)

    def test_anything(self):
        for claim in ANYTHING:
            for certificate in ANYTHING:
                self.told(claim, certificate, False)
        for claim, certificate in RIGHT:
            for wrong in ANYTHING:
                self.told(wrong, certificate, False)
                if not isinstance(wrong, tuple) or wrong and not isinstance(wrong[0], tuple):
                    self.told(claim, wrong, False)

    def test_parts_of_kept_classes(self):
        claim = ("keeps", TEXT, "p", "x")
        for wrong in [(2, 0, ("x", 2, 1, "ba")), (2, 0, ("x", 2, 0, "ab")), (2, 0, ("y", 2, 1, "ab")), (2, 0, ("x", 1, 1, "ab")),
                      (1, 0, ("x", 2, 1, "ab")), (2, 2, ("x", 2, 3, "ab")), (2, 0, ("x", 2, 1, "aa")), (2, 0, "a"),
                      (2, 0, ("x", 2, 1)), (2, 0), (2, 0, ("x", 2, 1, "ab"), 0), (2, False, ("x", 2, 1, "ab")),
                      (2, 0, ("x", 2, True, "ab")), (2, 0, ("x", True, 1, "ab")), [2, 0, ("x", 2, 1, "ab")],
                      (2, 0, ["x", 2, 1, "ab"]), (2, -2, ("x", 2, -1, "ab")), (4, 0, ("x", 4, 1, "ab")),
                      (0, 0, ("x", 0, 1, "ab")), (2, 0, (None, 2, 1, "ab")), (2, 0, ("x", 2, 1, None)), (3, 0, KEPT[0][2]),
                      (2, 0, ("x", 2, 1, "abc")), (2, 0, ("x", 2, 1, "a")), (2, 0, ("x", 3, 1, "ab")), None, Touchy(),
                      (2, 10 ** 39, ("x", 2, 10 ** 39 + 1, "ab")), (False, 0, ("x", 0, 1, "ab"))]:
            self.told(claim, (wrong, KEPT[1]), False)
            self.told(claim, (KEPT[1], wrong), False)
            self.told(claim, (*KEPT, wrong), False)
        single = (0, 0, ("x", 0, 1, "ab"))
        later = (2, 2, ("x", 2, 3, "ab"))
        self.told(claim, (single, KEPT[1], later), True)
        for wrong in [(0, 0, ("x", 0, 1, "ba")), (0, 0, ("x", 1, 1, "ab")), (0, 0, ("x", 0, 0, "ab")), (0, 0, ("x", 2, 1, "ab")),
                      (0, 1, ("x", 0, 0, "ba")), (0, 2, ("x", 0, 3, "ab")), (0, 0, ("x", False, 1, "ab")),
                      (False, 0, ("x", 0, 1, "ab")), (0, False, ("x", 0, 1, "ab")), (0, 0, ("x", 0, True, "ab"))]:
            self.told(claim, (wrong, KEPT[1], later), False)
            self.told(claim, (single, wrong, KEPT[1], later), False)
        self.told(claim, (single, KEPT[1]), False)
        self.told(claim, (KEPT[1], later), False)
        self.told(claim, (single, *KEPT), False)

    def test_large_steps_of_classes(self):
        """A row that is kept is told by classes with places of many figures, too."""
        for many in (1, 5, 40, 100):
            found, step, place = [], 1, 0
            for _ in range(many):
                found.append((2 * step, place + step, ("x", 2 * step, place + step, "ab")))
                step = 2 * step
            found.append((step, 0, ("x", step, 0, "ab")))
            claim = ("keeps", TEXT, "x", "x")
            self.told(claim, tuple(found), True)
            self.told(claim, tuple(found[::-1]), True)
            self.told(claim, tuple(found[:-1]), False)
            self.told(claim, tuple(found[1:]), False)
            apart = [(0, 0, ("x", 0, 0, "ab")), (step, step, ("x", step, step, "ab"))]
            self.told(claim, tuple(found[:-1] + apart), True)
            self.told(claim, tuple(found[:-1] + apart[:1]), False)
            self.told(claim, tuple(found[:-1] + apart[1:]), False)
            self.told(claim, tuple(found + apart[:1]), False)
            other = (0, 10 ** 39, ("x", 0, 10 ** 39, "ab"))
            self.told(claim, tuple(found + [other]), False)
            self.told(claim, tuple(found[:-1] + [other, apart[1]]), False)
        self.told(claim, ((10 ** 39, 0, ("x", 10 ** 39, 0, "ab")),), False)

    def test_one_sign(self):
        text = "base 2\nsigns q\nhanded x y\nrow s = weave(s, x)"
        sign = ("'q'", 1, 0, "q")
        for claim, certificate, wanted in [
                (("alike", text, "x", "y"), ((sign, sign),), True),
                (("alike", text, "x", "y"), ((("x", 1, 0, "q"), ("y", 1, 0, "q")),), False),
                (("full", text, "drop(1, s)"), (("weave(s, x)", 1, 1, "q"), sign), True),
                (("full", text, "drop(1, s)"), (("weave(s, x)", 1, 1, "q"), ("x", 1, 0, "q")), False),
                (("lost", text, "x", "x", 5), (sign,), True), (("lost", text, "x", "x", 5), (("x", 1, 0, "q"),), False),
                (("lost", text, "s", "x", 5), (("weave(s, x)", 1, 0, "q"), sign), True),
                (("shown", text, "x", "x", 5, 5), (), False), (("silent", text, "s", 0), (), True),
                (("parted", text, "x", "y", 4), (), False), (("parted", text, "s", "y", 0), (), True),
                (("keeps", text, "x", "x"), ((1, 0, ("x", 1, 0, "q")),), False), (("keeps", text, "x", "x"), (), False)]:
            self.told(claim, certificate, wanted)
            self.assertIs(is_right(claim, certificate), wanted)


class Drawn(Checking):
    def spoil(self, chance, claim, certificate, spare, times):
        """One thing otherwise, and what both accounts say of it."""
        found = []
        for _ in range(times):
            both = otherwise(chance, (claim, certificate), spare)
            if isinstance(both, tuple) and len(both) == 2 and both != (claim, certificate):
                wanted = is_right(*both)
                self.told(*both, wanted)
                found.append(wanted)
        return found

    def some_claims(self, chance, drawn, plan, other):
        """Claims about the plans with certificates that are right if the claims are true."""
        book, text = drawn.made(), text_of(plan)
        place = chance.choice((0, 1, 2, 5, chance.randrange(10 ** 20)))
        found = [(("full", str(book), text), rests_from(drawn, plan, text_of)), (("silent", str(book), text, place), ()),
                 (("parted", str(book), text, text_of(other), place), ())]
        if alike(book, build(plan), build(other)) is None:
            found.append((("alike", str(book), text, text_of(other)), pairs_from(drawn, plan, other, text_of)))
        for word in drawn.handed:
            found.append((("lost", str(book), text, word, place), rests_from(drawn, plan, text_of)))
            shown = chance.randrange(40)
            answer = answer_of(drawn, plan, shown)
            told = answer[1] if isinstance(answer, tuple) else place
            found.append((("shown", str(book), text, word, told, shown), ()))
            if keeps(book, build(plan), word):
                found.append((("keeps", str(book), text, word), classes(book, build(plan))))
        return found

    def is_true(self, drawn, claim):
        book, rest = drawn.made(), claim[2:]
        return {"full": lambda: silent(book, *rest) is None, "silent": lambda: look(book, *rest) is None,
                "parted": lambda: look(book, rest[0], rest[2]) != look(book, rest[1], rest[2]),
                "alike": lambda: alike(book, *rest) is None, "lost": lambda: rest[2] in lost(book, *rest[:2]),
                "shown": lambda: (look(book, rest[0], rest[3]) or "")[:2] == rest[1:3],
                "keeps": lambda: keeps(book, *rest)}[claim[0]]()

    def check(self, chance, drawn, plan, other, times):
        claims = self.some_claims(chance, drawn, plan, other)
        spare = [value for claim, certificate in claims for value in (*claim[1:], *certificate)] + [None, (), "x", 0]
        found = []
        for claim, certificate in claims:
            wanted = self.is_true(drawn, claim)
            self.told(claim, certificate, wanted)
            if len(certificate) <= 60:
                self.assertIs(is_right(claim, certificate), wanted, (claim, certificate))
                found += [(claim[0], told) for told in self.spoil(chance, claim, certificate, spare, times)]
            found.append((claim[0], wanted))
        return found

    def test_drawn_books_and_expressions(self):
        chance = random.Random(2)
        found = []
        for drawn in some_books(130, seed=61):
            plan = draw_fitting(chance, drawn, chance.choice((1, 4, 8, 14)))
            if len(graph_of(drawn, plan)) > 120:
                continue
            row = chance.choice(drawn.names)
            other = chance.choice([draw_fitting(chance, drawn, 2), put(plan, row, drawn.table[row]),
                                   weave(*[part(at, drawn.base, plan) for at in range(drawn.base)])])
            found += self.check(chance, drawn, plan, other, 12)
        for word in ("alike", "parted", "full", "silent", "lost", "shown"):
            for wanted in (True, False):
                self.assertGreater(found.count((word, wanted)), 10, (word, wanted))

    def test_rows_that_are_kept(self):
        chance = random.Random(3)
        found = []
        for _ in range(50):
            drawn, row = draw_kept_book(chance)
            plan = draw_kept(chance, drawn, row, 20)
            for word in drawn.handed:
                if keeps(drawn.made(), build(plan), word):
                    claim, certificate = certify_keeps(drawn.made(), build(plan), word)
                    self.told(claim, certificate, True)
                    self.assertTrue(is_right(claim, certificate))
                    found += self.spoil(chance, claim, certificate, [*certificate, "x", "y", 0], 30)
        self.assertGreater(min(found.count(True), found.count(False)), 30)

    def test_two_things_otherwise(self):
        chance = random.Random(4)
        for claim, certificate in RIGHT * 12:
            spare = [value for one, other in chance.sample(RIGHT, 3) for value in (*one, *other)]
            once = otherwise(chance, (claim, certificate), spare)
            twice = otherwise(chance, once, spare)
            for both in (once, twice):
                if isinstance(both, tuple) and len(both) == 2:
                    self.told(*both, is_right(*both))

    def test_exchanged_certificates(self):
        for claim, _ in RIGHT:
            for _, certificate in RIGHT:
                self.told(claim, certificate, is_right(claim, certificate))

    def test_large_expressions(self):
        chance = random.Random(5)
        done = 0
        while done < 25:
            drawn = draw_book(chance)
            plan = draw_fitting(chance, drawn, 40)
            if knots_in(plan) > 30 and len(graph_of(drawn, plan)) < 150:
                done += 1
                self.check(chance, drawn, plan, weave(*[name(drawn.names[0])] * drawn.base), 2)

    def test_first_places_that_are_shown(self):
        for place in (0, 3, 10 ** 30):
            self.told(("shown", TEXT, "s", "x", place, first_shown(BOOK, "s", "x", place)), (), True)
            self.told(("shown", TEXT, read_expression("s"), "x", place, first_shown(BOOK, "s", "x", place)), (), False)


if __name__ == "__main__":
    unittest.main()
