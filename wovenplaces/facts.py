"""What is told of an expression, gathered once when it is made."""


def spelled(kind, told, inner):
    """The text of the expression of this kind."""
    if kind == "sign":
        return f"'{told[0]}'"
    if kind == "name":
        return told[0]
    listed = ", ".join([str(part) for part in (*told, *inner)])
    return f"{kind}({listed})"


class Facts:
    """The kind of an expression, all of it that is no expression, its inner ones, and what follows from these."""

    def __init__(self, kind, told, inner):
        self.word = kind
        self.marks = told
        self.parts = inner
        self.text = spelled(kind, told, inner)
        names = list(told) if kind == "name" else [name for knot in inner for name in knot.names]
        self.labels = tuple(sorted(set(names)))
        self.size = 1 + sum([knot.knots for knot in inner])
