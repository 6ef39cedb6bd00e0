import unittest

from tests.expecting import NO_EXPRESSIONS, Expecting
from tests.plans import (
    CLASSES, build, build_by_name, deep_plan, knots_in, names_in, put, some_plans, text_of, wide_plan)
from wovenplaces.expressions import Drop, Expression, Lead, Name, Part, Sign, Turn, Weave, read_expression

MEMBERS = ("kind", "inner", "told", "names", "knots", "exchanged", "__str__", "__repr__", "__eq__", "__add__",
           "__rshift__")
SIMPLE = {
    "sign": Sign("a"),
    "name": Name("x"),
    "weave": Weave(Name("x"), Name("y")),
    "part": Part(1, 2, Name("x")),
    "drop": Drop(3, Name("x")),
    "lead": Lead(Name("x"), Name("y")),
    "turn": Turn("ba", Name("x")),
}


class Examples(Expecting):
    def test_examples_of_the_document(self):
        swap = Weave(Part(1, 2, Name("x")), Part(0, 2, Name("x")))
        self.assertEqual(
            [str(swap), swap.knots, swap.kind, swap.told, swap.names, swap.inner[0].told, repr(swap)],
            ["weave(part(1, 2, x), part(0, 2, x))", 5, "weave", (), ("x",), (1, 2), "Expression of 5 knots"])
        self.assertEqual(
            [str(Sign("a") + (Name("w") >> 1)),
             read_expression("lead('a', drop(1, w))") == Sign("a") + (Name("w") >> 1)],
            ["lead('a', drop(1, w))", True])
        self.assertEqual(
            [str(swap.exchanged("x", Turn("ba", Name("y")))), read_expression("turn(ba, x)").told],
            ["weave(part(1, 2, turn(ba, y)), part(0, 2, turn(ba, y)))", ("ba",)])


class Shape(Expecting):
    def test_classes_and_members_stand_where_the_interface_lists_them(self):
        for made in (Expression, read_expression, *CLASSES.values()):
            self.assertEqual(made.__module__, "wovenplaces.expressions")
        for made in CLASSES.values():
            for member in MEMBERS:
                with self.subTest(f"{made.__name__} {member}"):
                    self.assertTrue(member in vars(made) or member in vars(Expression))

    def test_classes_are_under_expression_alone(self):
        for kind, made in CLASSES.items():
            self.assertTrue(issubclass(made, Expression))
            for other, one in SIMPLE.items():
                with self.subTest(f"{kind} and {other}"):
                    self.assertEqual(isinstance(one, made), kind == other)


class Members(Expecting):
    def check(self, made, plan):
        """The expression tells what the plan tells, in values of the right kinds, and so do its inner ones."""
        kind, told, inner = plan
        self.assertIs(type(made), CLASSES[kind])
        self.assertIsInstance(made, Expression)
        for value, wanted in ((made.kind, kind), (made.told, told), (made.knots, knots_in(plan)),
                              (made.names, tuple(sorted(names_in(plan)))), (str(made), text_of(plan)),
                              (repr(made), f"Expression of {knots_in(plan)} knots")):
            self.assertIs(type(value), type(wanted))
            self.assertEqual(value, wanted)
        self.assertIs(type(made.inner), tuple)
        self.assertEqual(len(made.inner), len(inner))
        self.assertTrue(made)
        for one, other in zip(made.inner, inner):
            self.check(one, other)

    def test_each_class_told_out(self):
        x, y = Name("x"), Sign("b")
        rows = (
            (Sign("q"), "sign", (), ("q",), (), 1, "'q'"),
            (Name("part" + "s"), "name", (), ("parts",), ("parts",), 1, "parts"),
            (Weave(x, y), "weave", (x, y), (), ("x",), 3, "weave(x, 'b')"),
            (Weave(y, x, y), "weave", (y, x, y), (), ("x",), 4, "weave('b', x, 'b')"),
            (Weave(y, y, y, x), "weave", (y, y, y, x), (), ("x",), 5, "weave('b', 'b', 'b', x)"),
            (Part(3, 4, x), "part", (x,), (3, 4), ("x",), 2, "part(3, 4, x)"),
            (Drop(9, y), "drop", (y,), (9,), (), 2, "drop(9, 'b')"),
            (Lead(y, x), "lead", (y, x), (), ("x",), 3, "lead('b', x)"),
            (Turn("bbba", x), "turn", (x,), ("bbba",), ("x",), 2, "turn(bbba, x)"),
        )
        for made, kind, inner, told, names, knots, text in rows:
            with self.subTest(text):
                self.assertEqual((made.kind, made.inner, made.told, made.names, made.knots, str(made), repr(made)),
                                 (kind, inner, told, names, knots, text, f"Expression of {knots} knots"))

    def test_by_position_and_by_name(self):
        x, y = Name(name="x"), Sign(sign="a")
        self.assertEqual(str(Part(at=0, base=2, inner=x)), "part(0, 2, x)")
        self.assertEqual(str(Part(base=3, inner=x, at=2)), "part(2, 3, x)")
        self.assertEqual(str(Drop(many=1, inner=x)), "drop(1, x)")
        self.assertEqual(str(Lead(rest=x, first=y)), "lead('a', x)")
        self.assertEqual(str(Turn(inner=x, word="ab")), "turn(ab, x)")
        for plan in some_plans(60):
            self.check(build_by_name(plan), plan)

    def test_many_expressions(self):
        for plan in some_plans(400):
            self.check(build(plan), plan)

    def test_deep_and_wide_ones(self):
        kinds = ("weave", "part", "drop", "lead", "turn")
        for plan in [deep_plan(kinds, 12), wide_plan(), *[deep_plan((kind,), 12) for kind in kinds]]:
            self.check(build(plan), plan)
        self.assertEqual(build(wide_plan()).knots, 40)
        self.assertEqual(repr(build(wide_plan())), "Expression of 40 knots")

    def test_repr_of_one_knot(self):
        self.assertEqual((repr(Sign("a")), repr(Name("a"))), ("Expression of 1 knots",) * 2)

    def test_inner_ones_are_those_that_were_passed(self):
        one, other = Drop(1, Name("x")), Sign("a")
        self.assertEqual(Weave(other, one, one).inner, (other, one, one))
        self.assertEqual(Lead(one, other).inner, (one, other))
        for made in (Part(0, 2, one), Drop(4, one), Turn("a", one)):
            self.assertEqual(made.inner, (one,))
        self.assertEqual((one.inner, other.inner), ((Name("x"),), ()))

    def test_names_ascend_and_stand_once(self):
        made = Weave(Name("z"), Lead(Name("b"), Name("z")), Turn("cd", Name("ba")), Sign("e"))
        self.assertEqual(made.names, ("b", "ba", "z"))
        self.assertEqual(Weave(Name("y"), Name("x"), Name("y")).names, ("x", "y"))
        self.assertEqual(Weave(Sign("a"), Turn("xy", Sign("b"))).names, ())


def near_ones():
    x, y = Name("x"), Name("y")
    return [Sign("x"), x, y, Weave(x, y), Weave(y, x), Weave(x, y, y), Lead(x, y), Lead(y, x), Part(0, 2, x),
            Part(0, 3, x), Part(1, 3, x), Part(0, 2, y), Drop(1, x), Drop(2, x), Drop(1, y), Drop(1, Drop(1, x)),
            Turn("a", x), Turn("aa", x), Turn("a", y), Turn("b", Turn("a", x)), Drop(1, Weave(x, y)),
            Drop(1, Part(0, 2, x)), Drop(1, Lead(x, y)), Drop(1, Sign("x")), Drop(1, Drop(1, Drop(1, x)))]


class Equality(Expecting):
    def both(self, one, other, wanted):
        for left, right in ((one, other), (other, one)):
            self.assertIs(left == right, wanted)
            self.assertIs(left != right, not wanted)

    def test_by_texts(self):
        plans = some_plans(60)
        texts = [text_of(plan) for plan in plans]
        made = [build(plan) for plan in plans]
        again = [read_expression(text) for text in texts]
        for at, one in enumerate(made):
            for to, other in enumerate(again):
                self.both(one, other, texts[at] == texts[to])

    def test_near_ones_are_not_equal(self):
        for at, one in enumerate(near_ones()):
            for to, other in enumerate(near_ones()):
                self.both(one, other, at == to)

    def test_equal_to_no_value_of_another_class(self):
        for made in SIMPLE.values():
            for other in (str(made), repr(made), (), None, 0, 1, True, False, made.told, made.inner, made.knots,
                          [made], (made,), {"x": 1}, b"x", object(), type(made), (made.kind, made.told, made.inner)):
                self.both(made, other, False)

    def test_in_tuples(self):
        self.assertIn(read_expression("drop(3, x)"), tuple(SIMPLE.values()))
        self.assertNotIn(read_expression("drop(4, x)"), tuple(SIMPLE.values()))
        self.assertNotIn("drop(3, x)", tuple(SIMPLE.values()))


class Operators(Expecting):
    def test_plus_is_lead_and_shift_is_drop(self):
        for plan in some_plans(40):
            one, text = build(plan), text_of(plan)
            for other in SIMPLE.values():
                made = one + other
                self.assertIs(type(made), Lead)
                self.assertEqual((str(made), made.inner), (f"lead({text}, {other})", (one, other)))
                self.assertEqual(str(other + one), f"lead({other}, {text})")
                self.assertEqual(made.knots, 1 + one.knots + other.knots)
            for many in range(1, 10):
                made = one >> many
                self.assertIs(type(made), Drop)
                self.assertEqual((str(made), made.told, made.inner), (f"drop({many}, {text})", (many,), (one,)))
            self.assertEqual((str(one), one.knots), (text, knots_in(plan)))

    def test_operands_stay_as_they_were(self):
        one = other = Weave(Name("x"), Name("y"))
        one += Name("z")
        one >>= 2
        self.assertEqual((str(other), str(one)), ("weave(x, y)", "drop(2, lead(weave(x, y), z))"))

    def test_for_each_class(self):
        for made in SIMPLE.values():
            self.assertEqual(str(made + made), f"lead({made}, {made})")
            self.assertEqual(str(made >> 9), f"drop(9, {made})")


class Exchanged(Expecting):
    def test_many(self):
        others = some_plans(12)
        for plan in some_plans(80):
            made, text = build(plan), text_of(plan)
            for name in [*sorted(names_in(plan))[:3], "absent", "x"]:
                for other in others:
                    wanted = text_of(put(plan, name, other))
                    got = made.exchanged(name, build(other))
                    self.assertIsInstance(got, Expression)
                    self.assertEqual(str(got), wanted)
            self.assertEqual(str(made), text)

    def test_members_of_what_comes_out(self):
        got = read_expression("weave(x, part(0, 2, lead(x, y)), turn(x, x))").exchanged("x", Drop(1, Name("a")))
        self.assertEqual(
            (str(got), got.names, got.knots, got.kind, got.inner[2].told, type(got.inner[1].inner[0])),
            ("weave(drop(1, a), part(0, 2, lead(drop(1, a), y)), turn(x, drop(1, a)))", ("a", "y"), 11, "weave",
             ("x",), Lead))

    def test_only_knots_that_are_the_name(self):
        made = read_expression("weave(x, 'x', turn(x, y), xx)")
        self.assertEqual(str(made.exchanged("x", Sign("b"))), "weave('b', 'x', turn(x, y), xx)")
        self.assertEqual(str(made.exchanged("absent", Sign("b"))), str(made))
        self.assertEqual(str(Sign("x").exchanged("x", Name("y"))), "'x'")

    def test_once_and_not_again(self):
        other = read_expression("lead(y, x)")
        self.assertEqual(str(read_expression("weave(x, y)").exchanged("x", other)), "weave(lead(y, x), y)")
        self.assertEqual(str(other), "lead(y, x)")
        self.assertEqual(str(Name("x").exchanged("x", Name("x"))), "x")

    def test_by_name_and_for_each_class(self):
        for made in SIMPLE.values():
            wanted = str(made).replace("x", "lead(x, w)")
            got = made.exchanged(other=Lead(Name("x"), Name("w")), name="x")
            self.assertEqual((str(got), type(got)), (wanted, type(made) if made.kind != "name" else Lead))

    def test_larger_ones_than_callers_make(self):
        wide = build(wide_plan())
        self.assertEqual(str(wide.exchanged("x", wide)), text_of(wide_plan()).replace("x", text_of(wide_plan())))
        deep = Name("x")
        for _ in range(100):
            deep = deep >> 1
        text = "drop(1, " * 100 + "x" + ")" * 100
        self.assertEqual((str(deep), deep.knots, deep == read_expression(text)), (text, 101, True))
        self.assertEqual(str(deep.exchanged("x", Sign("a"))), text.replace("x", "'a'"))


class Kept(Expecting):
    def test_nothing_that_is_passed_is_changed(self):
        parts = [Name("x"), Sign("a"), read_expression("drop(2, y)")]
        texts = [str(part) for part in parts]
        made = Weave(*parts)
        made.exchanged("x", parts[2])
        self.assertEqual([str(part) for part in parts], texts)
        for wrong in NO_EXPRESSIONS[3:8]:
            with self.assertRaises(ValueError):
                made.exchanged("x", wrong)
        self.assertEqual((str(made), made.knots), ("weave(x, 'a', drop(2, y))", 5))


if __name__ == "__main__":
    unittest.main()
