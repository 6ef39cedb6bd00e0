"""Which names an expression has, and whether it fits a base and the signs of a book."""


def knots_of(expression):
    """All knots of an expression, in the order in which their texts begin."""
    found = []
    waiting = [expression]
    while waiting:
        knot = waiting.pop()
        found.append(knot)
        waiting.extend(knot.inner[::-1])
    return found


def first_unknown(expression, names):
    """The first name in the text of the expression that is none of these, None if there is none."""
    for knot in knots_of(expression):
        if knot.kind == "name" and knot.told[0] not in names:
            return knot.told[0]
    return None


def fits_word(word, signs):
    return len(word) == len(signs) and all([sign in signs for sign in word])


def knot_fits(knot, base, signs):
    if knot.kind == "weave":
        return len(knot.inner) == base
    if knot.kind == "part":
        return knot.told[1] == base
    if knot.kind == "sign":
        return knot.told[0] in signs
    if knot.kind == "turn":
        return fits_word(knot.told[0], signs)
    return True


def fits(expression, base, signs):
    return all([knot_fits(knot, base, signs) for knot in knots_of(expression)])
