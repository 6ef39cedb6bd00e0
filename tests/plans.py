"""A second account of expressions, to test the first one with: plans, which are plain tuples.

A plan is (kind, told, inner plans). Nothing here uses what it is compared with, except `build`, which calls the
classes.
"""

import random
import re

from wovenplaces.expressions import Drop, Lead, Name, Part, Sign, Turn, Weave

LETTERS = "abcdefghijklmnopqrstuvwxyz"
NO_NAMES = ("weave", "part", "drop", "lead", "turn")
CLASSES = {"sign": Sign, "name": Name, "weave": Weave, "part": Part, "drop": Drop, "lead": Lead, "turn": Turn}
PARAMETERS = {
    "sign": ("sign",), "name": ("name",), "part": ("at", "base", "inner"), "drop": ("many", "inner"),
    "lead": ("first", "rest"), "turn": ("word", "inner"),
}


def sign(letter):
    return "sign", (letter,), ()


def name(word):
    return "name", (word,), ()


def weave(*inner):
    return "weave", (), inner


def part(at, base, inner):
    return "part", (at, base), (inner,)


def drop(many, inner):
    return "drop", (many,), (inner,)


def lead(first, rest):
    return "lead", (), (first, rest)


def turn(word, inner):
    return "turn", (word,), (inner,)


def build(plan):
    kind, told, inner = plan
    return CLASSES[kind](*told, *[build(one) for one in inner])


def plan_of(expression):
    return expression.kind, expression.told, tuple(plan_of(inner) for inner in expression.inner)


def build_by_name(plan):
    kind, told, inner = plan
    values = [*told, *[build_by_name(one) for one in inner]]
    if kind == "weave":
        return Weave(*values)
    return CLASSES[kind](**dict(list(zip(PARAMETERS[kind], values))[::-1]))


def text_of(plan):
    kind, told, inner = plan
    if kind == "sign":
        return "'" + told[0] + "'"
    if kind == "name":
        return told[0]
    return kind + "(" + ", ".join([str(value) for value in told] + [text_of(one) for one in inner]) + ")"


def names_in(plan):
    kind, told, inner = plan
    if kind == "name":
        return {told[0]}
    return set().union(*[names_in(one) for one in inner])


def knots_in(plan):
    return 1 + sum(knots_in(one) for one in plan[2])


def depth_of(plan):
    return 1 + max([depth_of(one) for one in plan[2]], default=0)


def put(plan, name, other):
    """The plan with the other one in the place of the name."""
    kind, told, inner = plan
    if kind == "name" and told == (name,):
        return other
    return kind, told, tuple(put(one, name, other) for one in inner)


def some_name(chance):
    while True:
        name = "".join(chance.choice("abxyz" + LETTERS) for _ in range(chance.choice((1, 1, 1, 2, 3, 8))))
        if name not in NO_NAMES:
            return name


def some_word(chance):
    if chance.random() < 0.1:
        return chance.choice(("part", "drop", "lead", "turn"))
    return "".join(chance.choice("abcz") for _ in range(chance.randint(1, 4)))


def some_plan(chance, knots, deep):
    """A plan with at most so many knots, nested at most so deep."""
    kinds = ["sign", "name"]
    if deep > 1 and knots > 1:
        kinds = ["part", "drop", "turn"]
        if knots > 2:
            kinds += ["weave", "weave", "lead"]
    kind = chance.choice(kinds)
    many = {"weave": chance.randint(2, min(4, max(2, knots - 1))), "lead": 2, "sign": 0, "name": 0}.get(kind, 1)
    told = ()
    if kind == "sign":
        told = (chance.choice(LETTERS),)
    if kind == "name":
        told = (some_name(chance),)
    if kind == "part":
        base = chance.randint(2, 4)
        told = (chance.randrange(base), base)
    if kind == "drop":
        told = (chance.randint(1, 9),)
    if kind == "turn":
        told = (some_word(chance),)
    inner = []
    left = knots - 1
    for at in range(many):
        share = left - (many - 1 - at) if at == many - 1 else chance.randint(1, max(1, left - (many - 1 - at)))
        inner.append(some_plan(chance, share, deep - 1))
        left -= knots_in(inner[-1])
    return kind, told, tuple(inner)


def some_plans(many):
    """So many plans, always the same ones, with up to forty knots and up to twelve deep."""
    chance = random.Random(many)
    return [some_plan(chance, chance.choice((1, 2, 3, 5, 8, 20, 40)), chance.choice((2, 4, 12))) for _ in range(many)]


def deep_plan(kinds, depth):
    """A plan that is nested just so deep, with these kinds by turns."""
    plan = ("name", ("x",), ())
    for at in range(depth - 1):
        kind = kinds[at % len(kinds)]
        told = {"part": (1, 3), "drop": (9,), "turn": ("ba",)}.get(kind, ())
        side = ("sign", ("a",), ())
        inner = {"weave": (side, plan, side), "lead": (side, plan)}.get(kind, (plan,))
        plan = (kind, told, inner)
    return plan


def wide_plan():
    """A plan with just forty knots."""
    four = ("weave", (), tuple(("name", (name,), ()) for name in "xyzx"))
    eight = ("weave", (), (four, four, four))
    plan = ("weave", (), (eight, eight))
    two = ("weave", (), four[2][:2])
    return ("lead", (), (plan, ("drop", (3,), (("turn", ("ba",), (("part", (0, 2), (two,)),)),))))


def is_text(text):
    """Whether this is the text of an expression: what is finished becomes an @, until no more can."""
    if re.search("[^a-z0-9'(), ]", text):
        return False
    text = re.sub("'[a-z]'", "@", text)
    text = re.sub(r"(?<![a-z])turn\([a-z]{1,4}, ", "turn#", text)
    text = re.sub(r"(?<![a-z])drop\([1-9], ", "drop#", text)
    text = re.sub(r"(?<![a-z])part\((0, [234]|1, [234]|2, [34]|3, 4), ", "part#", text)
    text = re.sub(r"(?<![a-z])lead\(", "lead#", text)
    text = re.sub(r"(?<![a-z])weave\(", "weave#", text)
    text = re.sub("(?<![a-z])(?!(?:weave|part|drop|lead|turn)(?![a-z]))[a-z]{1,8}(?![a-z(#])", "@", text)
    before = None
    while before != text:
        before = text
        text = re.sub(r"weave#@(, @){1,3}\)|(part|drop|turn)#@\)|lead#@, @\)", "@", text)
    return text == "@"
