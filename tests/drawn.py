"""A second account of books and looks, to test the first one with; expressions are plans here (see tests.plans).

Nothing here uses what it is compared with, except `Drawn.made`, which makes the Book.
"""

import random

from tests.plans import build, knots_in, names_in, plan_of, text_of
from wovenplaces.books import Book


class Drawn:
    def __init__(self, base, signs, handed, rows):
        self.base, self.signs, self.handed, self.rows = base, signs, handed, rows
        self.table = dict(rows)
        self.names = tuple(self.table)

    def pairs(self):
        return tuple((name, build(plan)) for name, plan in self.rows)

    def made(self):
        return Book(self.base, self.signs, self.handed, self.pairs())

    def text(self):
        lines = ["base " + str(self.base), "signs " + self.signs,
                 "handed" + "".join(" " + name for name in self.handed)]
        return "\n".join(lines + ["row " + name + " = " + text_of(plan) for name, plan in self.rows])


def drawn_of(book):
    return Drawn(book.base, book.signs, book.handed, tuple((name, plan_of(one)) for name, one in book.rows))


# Looks

def exchanged(sign, words, signs):
    """The sign after all exchanges of a walk, the last one of the walk first."""
    for word in reversed(words):
        sign = word[signs.index(sign)]
    return sign


def answer_at(drawn, end, place, words):
    kind, told, _ = end
    if kind == "sign":
        return exchanged(told[0], words, drawn.signs)
    word = "".join(exchanged(sign, words, drawn.signs) for sign in drawn.signs)
    return word[0] if len(set(word)) == 1 else (told[0], place, word)


def next_look(drawn, plan, place):
    kind, told, inner = plan
    if kind == "name":
        return (drawn.table[told[0]], place) if told[0] in drawn.table else None
    return {
        "sign": lambda: None,
        "weave": lambda: (inner[place % drawn.base], place // drawn.base),
        "part": lambda: (inner[0], drawn.base * place + told[0]),
        "drop": lambda: (inner[0], place + told[0]),
        "turn": lambda: (inner[0], place),
        "lead": lambda: (inner[0], 0) if place == 0 else (inner[1], place - 1),
    }[kind]()


def walk_of(drawn, plan, place):
    """The looks of a walk as pairs of a text and a place."""
    looks, seen = [], set()
    following = (plan, place)
    while following:
        look = (text_of(following[0]), following[1])
        looks.append(look)
        if look in seen:
            break
        seen.add(look)
        following = next_look(drawn, *following)
    return tuple(looks)


def answer_of(drawn, plan, place):
    words, seen = [], set()
    while True:
        if plan[0] == "name":
            if (plan, place) in seen:
                return None
            seen.add((plan, place))
        if plan[0] == "turn":
            words.append(plan[1][0])
        following = next_look(drawn, plan, place)
        if following is None:
            return answer_at(drawn, plan, place, words)
        plan, place = following


# What fits, and the three rules

def knots_by_depth(plan):
    yield plan
    for one in plan[2]:
        yield from knots_by_depth(one)


def first_foreign_name(drawn, plan):
    for kind, told, _ in knots_by_depth(plan):
        if kind == "name" and told[0] not in drawn.handed + drawn.names:
            return told[0]
    return None


def does_fit(drawn, plan):
    for kind, told, inner in knots_by_depth(plan):
        if kind == "weave" and len(inner) != drawn.base or kind == "part" and told[1] != drawn.base:
            return False
        if kind in ("sign", "turn") and set(told[0]) - set(drawn.signs):
            return False
        if kind == "turn" and len(told[0]) != len(drawn.signs):
            return False
    return True


def leaves(plan, is_open=True, parts=0):
    """Each knot that is a name, with whether it stands within no weave, and within how many parts."""
    kind, told, inner = plan
    if kind == "name":
        yield told[0], is_open, parts
    for one in inner:
        yield from leaves(one, is_open and kind != "weave", parts + (kind == "part"))


def comes_back(drawn, name, is_step, is_mark):
    """Whether steps lead from a row back to it, one of them marked."""
    states = [(name, False)]
    for row, marked in states:
        for leaf in leaves(drawn.table[row]):
            after = (leaf[0], marked or is_mark(leaf))
            if leaf[0] in drawn.table and is_step(leaf):
                if after == (name, True):
                    return True
                if after not in states:
                    states.append(after)
    return False


def parts_of_way(drawn, plan, met):
    """The greatest number of parts on a way that meets no row twice."""
    kind, told, inner = plan
    if kind == "name":
        if told[0] in met or told[0] not in drawn.table:
            return 0
        return parts_of_way(drawn, drawn.table[told[0]], met + told)
    return (kind == "part") + max([parts_of_way(drawn, one, met) for one in inner], default=0)


def fault_of(drawn):
    """What is wrong with the rows of a book behind "then": the name of the error and what it holds, or None."""
    for name, plan in drawn.rows:
        if first_foreign_name(drawn, plan):
            return "UnknownName", first_foreign_name(drawn, plan)
    for name, plan in drawn.rows:
        if knots_in(plan) > 8 or not does_fit(drawn, plan):
            return "InvalidExpression", text_of(plan)
    for name in drawn.names:
        if comes_back(drawn, name, lambda leaf: leaf[1], lambda leaf: True):
            return "OpenRing", name
    for name in drawn.names:
        if comes_back(drawn, name, lambda leaf: True, lambda leaf: leaf[2] > 0):
            return "PartRing", name
    most = max(parts_of_way(drawn, plan, (name,)) for name, plan in drawn.rows)
    return ("TooManyParts", most) if most > 3 else None


# Drawing

def draw_word(chance, signs):
    if chance.random() < 0.6:
        return "".join(chance.sample(signs, len(signs)))
    return "".join(chance.choice(signs) for _ in signs)


def draw_kind(chance, base, knots, parts):
    kinds = ["drop", "turn", "drop"] + ["part"] * (parts > 0)
    if knots > 2:
        kinds += ["lead"] * 3
    if knots > base:
        kinds += ["weave"] * 5
    return chance.choice(kinds)


def draw_plan(chance, base, signs, names, knots, depth=12, parts=0):
    """A plan that fits, of at most so many knots, nested at most so deep, within at most so many parts."""
    if knots == 1 or depth == 1:
        if not names or chance.random() < 0.2:
            return "sign", (chance.choice(signs),), ()
        return "name", (chance.choice(names),), ()
    kind = draw_kind(chance, base, knots, parts)
    told = {"drop": (chance.choice((1, 1, 2, 3, 5, 9)),), "turn": (draw_word(chance, signs),),
            "part": (chance.randrange(base), base)}.get(kind, ())
    left, inner = knots - 1, []
    many = {"weave": base, "lead": 2}.get(kind, 1)
    for at in range(many, 0, -1):
        share = left if at == 1 else chance.randint(1, left - at + 1)
        inner.append(draw_plan(chance, base, signs, names, share, depth - 1, parts - (kind == "part")))
        left -= knots_in(inner[-1])
    chance.shuffle(inner)
    return kind, told, tuple(inner)


def draw_rows(chance, most_parts=2):
    """What may be a book or break the rules."""
    base, signs = chance.choice((2, 2, 3, 4)), "dabc"[:chance.randint(1, 4)]
    handed, names = ("x", "y", "z")[:chance.randint(0, 3)], ("r", "s", "t", "u")[:chance.randint(1, 4)]
    rows = []
    for name in names:
        parts = chance.randint(0, most_parts)
        rows.append((name, draw_plan(chance, base, signs, handed + names * 2, chance.choice((2, 5, 7, 8)), 8, parts)))
    return Drawn(base, signs, handed, tuple(rows))


def draw_book(chance):
    while True:
        drawn = draw_rows(chance)
        if fault_of(drawn) is None:
            return drawn


def draw_fitting(chance, drawn, knots=None):
    knots = knots or chance.choice((1, 3, 6, 12, 25, 40))
    return draw_plan(chance, drawn.base, drawn.signs, drawn.handed + drawn.names, knots, 12, 3)


def some_books(many, seed=0):
    """So many books, always the same ones."""
    chance = random.Random(f"{seed} of {many}")
    return [draw_book(chance) for _ in range(many)]


def uses_rows(drawn, plan):
    return bool(names_in(plan) & set(drawn.names))
