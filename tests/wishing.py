"""Wishes that are drawn, and values that are none."""

from tests.drawn import draw_fitting
from tests.expecting import Touchy, nested_list
from tests.plans import text_of
from wovenplaces.books import Book
from wovenplaces.expressions import Name, read_expression

WISHED = Book.read("base 2\nsigns ab\nhanded x y\nrow s = weave(s, x)\nrow p = weave(part(1, 2, x), part(1, 2, x))")
RIGHT_WISHES = [("alike", "s", "x"), ("alike", "x", "x"), ("full", "s"), ("full", "lead('a', drop(1, s))"),
                ("all", "p", "x"), ("all", "weave(x, y)", "y"), ("once", "p", "x"), ("once", "y", "x")]
# None of these is a wish of the book above.
NO_WISHES = [
    None, True, False, 0, 1, 10 ** 39, "", "full", "full s", b"full", [], {}, set(), object(), Touchy(), Name("s"), WISHED,
    (), ("full",), ("alike",), ("alike", "s"), ("alike", "s", "x", "x"), ("full", "s", "x"), ("all", "p"), ("once", "p"),
    ("all", "p", "x", "x"), ("once", "x", "p", "y"), ("none", "s"), ("Full", "s"), ("full ", "s"), ("fulls", "s"),
    ("", "s"), ("silent", "s"), ("keeps", "p", "x"), (None, "s"), (True, "s"), (Touchy(), "s"), (("full",), "s"),
    (["full"], "s"), (b"full", "s"), (0, "s"), ("s", "full"), ["full", "s"], ["alike", "s", "x"], [("full", "s")],
    (("full", "s"),), {"full": "s"}, ("full", None), ("full", True), ("full", 0), ("full", Touchy()), ("full", ["s"]),
    ("full", ("s",)), ("full", b"s"), ("full", Name("s")), ("full", read_expression("weave(s, x)")), ("full", WISHED),
    ("alike", "s", Name("x")), ("alike", Name("s"), "x"), ("all", Name("p"), "x"), ("full", ""), ("full", "s "),
    ("full", " s"), ("full", "S"), ("full", "weave(s,x)"), ("full", "weave(s, x"), ("full", "drop(0, s)"),
    ("full", "drop(01, s)"), ("full", "part(2, 2, s)"), ("full", "s\n"), ("full", "'a"), ("full", "row s"),
    ("alike", "s", "x "), ("alike", "", "x"), ("full", "v"), ("full", "weave(s, v)"), ("alike", "s", "v"),
    ("alike", "v", "s"), ("all", "v", "x"), ("once", "lead(v, s)", "x"), ("full", "'c'"), ("full", "weave(s, x, x)"),
    ("full", "part(0, 3, x)"), ("full", "turn(a, x)"), ("full", "turn(ac, x)"), ("full", "turn(aba, x)"),
    ("alike", "s", "'c'"), ("alike", "weave(s, s, s)", "s"), ("all", "turn(c, p)", "x"), ("all", "p", "s"),
    ("all", "p", "p"), ("all", "p", "z"), ("all", "p", ""), ("all", "p", "xx"), ("all", "p", "'a'"), ("all", "p", None),
    ("all", "p", True), ("all", "p", 0), ("all", "p", ["x"]), ("all", "p", ("x",)), ("all", "p", Name("x")),
    ("all", "p", Touchy()), ("all", "p", b"x"), ("all", "p", "x "), ("once", "p", "s"), ("once", "p", Name("x")),
    ("once", "p", "drop(1, x)"), ("all", "x", "p"), ("once", "s", nested_list(8)), ("full", nested_list(8)),
    nested_list(9)]


def draw_wish(chance, drawn):
    row = text_of(draw_fitting(chance, drawn, chance.choice((1, 1, 3, 6))))
    if chance.random() < 0.6:
        row = chance.choice(drawn.names)
    kind = chance.choice(("alike", "full", "all", "once") if drawn.handed else ("alike", "full"))
    if kind == "alike":
        return kind, row, text_of(draw_fitting(chance, drawn, chance.choice((1, 3))))
    return (kind, row) if kind == "full" else (kind, row, chance.choice(drawn.handed))
