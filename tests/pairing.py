"""Whether two plans are alike, by pairs of rests as point [16] of the document tells; slow, but told otherwise.

A form is a tuple (plan, step, place, word): it speaks of the places step * m + place.
"""

from tests.drawn import answer_of, exchanged


def applied(drawn, answer, word):
    """The answer after one exchange more."""
    if answer is None:
        return None
    if isinstance(answer, str):
        return exchanged(answer, [word], drawn.signs)
    after = "".join(exchanged(sign, [word], drawn.signs) for sign in answer[2])
    return after[0] if len(set(after)) == 1 else (answer[0], answer[1], after)


def rest_of(drawn, plan, step, place, word):
    base = drawn.base
    while True:
        kind, told, inner = plan
        if kind == "name" and told[0] in drawn.table:
            plan = drawn.table[told[0]]
        elif kind == "drop":
            plan, place = inner[0], place + told[0]
        elif kind == "part":
            plan, step, place = inner[0], base * step, base * place + told[0]
        elif kind == "turn":
            plan, word = inner[0], "".join(exchanged(sign, [word], drawn.signs) for sign in told[0])
        elif kind == "lead" and place > 0:
            plan, place = inner[1], place - 1
        elif kind == "weave" and step > 1:
            plan, step, place = inner[place % base], step // base, place // base
        else:
            return said_by(drawn, (plan, step, place, word))


def said_by(drawn, rest):
    """The rest, an end that says a sign being this sign as a form of its own."""
    plan, step, place, word = rest
    if plan[0] == "sign" or plan[0] == "name" and len(set(word)) == 1:
        sign = exchanged(plan[1][0], [word], drawn.signs) if plan[0] == "sign" else word[0]
        return ("sign", (sign,), ()), 1, 0, drawn.signs
    return rest


def at_nought(drawn, rest):
    plan, step, place, word = rest
    return applied(drawn, answer_of(drawn, plan, place), word)


def moved(drawn, rest, times, more):
    """The rest that speaks of the places step * (times * m + more) + place of its expression."""
    plan, step, place, word = rest
    if plan[0] == "sign":
        return rest
    return rest_of(drawn, plan, step * times, place + step * more, word)


def next_pairs(drawn, left, right):
    if "lead" in (left[0][0], right[0][0]):
        return [(moved(drawn, left, 1, 1), moved(drawn, right, 1, 1))]
    return [(moved(drawn, left, drawn.base, at), moved(drawn, right, drawn.base, at)) for at in range(drawn.base)]


def are_alike(drawn, one, other, most=20000):
    """Whether the two plans are alike; None if there are too many pairs to tell it."""
    first = tuple(rest_of(drawn, plan, 1, 0, drawn.signs) for plan in (one, other))
    waiting, found = [first], {first}
    while waiting:
        left, right = waiting.pop()
        ends = [rest[0][0] in ("sign", "name") for rest in (left, right)]
        if all(ends) and left != right or at_nought(drawn, left) != at_nought(drawn, right):
            return False
        for pair in [] if all(ends) else next_pairs(drawn, left, right):
            if pair not in found:
                found.add(pair)
                waiting.append(pair)
        if len(found) > most:
            return None
    return True
