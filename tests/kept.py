"""Rows that keep a handed name, and rows that are near to such ones."""

from tests.drawn import Drawn, draw_book, draw_word, fault_of
from tests.plans import depth_of, drop, knots_in, lead, name, part, sign, turn, weave


def draw_permutation(chance, signs):
    return "".join(chance.sample(signs, len(signs)))


def moved_first(chance, base, plan):
    """The parts of a plan, the first place of one of them ahead of another one."""
    lanes = [part(at, base, plan) for at in range(base)]
    one, other = chance.sample(range(base), 2)
    first = lanes[one]
    lanes[one] = drop(1, first)
    lanes[other] = lead(first, lanes[other])
    return lanes


def rearranged(chance, drawn, plan, deep, parts):
    """A plan that shows what the other one shows, each place as often, in another order."""
    if deep == 0:
        return plan
    kind = chance.choice(["turn", "lead", "first", "third"] + ["weave", "weave", "moved"] * (parts > 0))
    if kind == "turn":
        return turn(draw_permutation(chance, drawn.signs), rearranged(chance, drawn, plan, deep - 1, parts))
    if kind in ("weave", "moved"):
        lanes = [part(at, drawn.base, plan) for at in range(drawn.base)]
        if kind == "moved":
            lanes = moved_first(chance, drawn.base, plan)
        chance.shuffle(lanes)
        return weave(*[rearranged(chance, drawn, lane, chance.randrange(deep), parts - 1) for lane in lanes])
    inner = rearranged(chance, drawn, plan, chance.randrange(deep), parts)
    if kind == "lead":
        return lead(inner, drop(1, inner))
    if kind == "first":
        return lead(drop(1, inner), lead(inner, drop(2, inner)))
    return lead(drop(2, inner), lead(inner, lead(drop(1, inner), drop(3, inner))))


def draw_kept(chance, drawn, plan, most=40):
    while True:
        found = rearranged(chance, drawn, plan, chance.randint(1, 4), chance.randint(0, 3))
        if knots_in(found) <= most and depth_of(found) <= 12:
            return found


def draw_kept_book(chance):
    """A book with a handed name of which one row has all, and the plan that is this row's name or goes on from it."""
    while True:
        drawn = draw_book(chance)
        if not drawn.handed or len(drawn.signs) < 2:
            continue
        row = chance.choice(drawn.names)
        kept = draw_kept(chance, drawn, name(chance.choice(drawn.handed)), 8)
        drawn = Drawn(drawn.base, drawn.signs, drawn.handed,
                      tuple((one, kept if one == row else plan) for one, plan in drawn.rows))
        if fault_of(drawn) is None:
            return drawn, name(row)


def spoiled(chance, drawn, plan):
    """A plan that is near to the other one and shows something else, mostly."""
    word = name(chance.choice(drawn.handed + drawn.names))
    lanes = [part(at, drawn.base, plan) for at in range(drawn.base)]
    lanes[chance.randrange(drawn.base)] = chance.choice([sign(drawn.signs[0]), plan, lanes[0], word])
    return chance.choice([
        drop(1, plan), lead(plan, plan), lead(sign(drawn.signs[0]), plan), lead(word, plan), weave(*lanes),
        lead(drop(1, plan), drop(1, plan)), lead(plan, drop(2, plan)), turn(draw_word(chance, drawn.signs), plan),
        weave(*[plan] * drawn.base), lead(plan, drop(1, turn(draw_word(chance, drawn.signs), plan)))])
