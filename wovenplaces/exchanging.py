"""Expressions made anew with another expression in the place of a name."""


def knots_above(expression, name):
    """The knots in which the name stands and their inner expressions, each one behind its own inner ones."""
    found = []
    waiting = [expression]
    while waiting:
        knot = waiting.pop()
        found.append(knot)
        if name in knot.names:
            waiting.extend(knot.inner)
    # Each one was found ahead of its inner ones, and of these the last one first.
    return found[::-1]


def exchange(expression, name, other, make):
    """The expression with the other one in the place of each knot that is the name.

    `make` is a function that makes the expression of a kind, with all of it that is no expression
    and its inner expressions. An expression may be deep, so nothing here calls itself.
    """
    done = []
    for knot in knots_above(expression, name):
        if name not in knot.names:
            done.append(knot)
        elif knot.kind == "name":
            done.append(other)
        else:
            first = len(done) - len(knot.inner)
            inner = tuple(done[first:])
            del done[first:]
            done.append(make(knot.kind, knot.told, inner))
    return done[0]
