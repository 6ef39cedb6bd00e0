"""The three rules for the rows of a book: open rings, parts in rings, and parts on a way.

`rows` are pairs of a name and an expression, as a book has them; `uses` has the uses of each row by its name.
"""


class Use:
    """A knot that is the name of a row, with what stands around it in the expression of a row."""

    def __init__(self, name, is_open, parts):
        self.name = name
        self.is_open = is_open
        self.parts = parts


def paths_of(expression):
    """For each knot of an expression: the knot, whether it stands within no weave, and within how many parts."""
    found = []
    waiting = [(expression, True, 0)]
    while waiting:
        knot, is_open, parts = waiting.pop()
        found.append((knot, is_open, parts))
        if knot.kind == "weave":
            is_open = False
        if knot.kind == "part":
            parts += 1
        for inner in knot.inner:
            waiting.append((inner, is_open, parts))
    return found


def uses_of(expression, names):
    uses = []
    for knot, is_open, parts in paths_of(expression):
        if knot.kind == "name" and knot.told[0] in names:
            uses.append(Use(knot.told[0], is_open, parts))
    return uses


def uses_by_row(rows):
    names = [pair[0] for pair in rows]
    return {name: uses_of(expression, names) for name, expression in rows}


def reached_from(name, followers):
    """The names to which one or more steps lead from this one; `followers` has those of one step."""
    reached = []
    waiting = [name]
    while waiting:
        for follower in followers[waiting.pop()]:
            if follower not in reached:
                reached.append(follower)
                waiting.append(follower)
    return reached


def first_open_ring(uses):
    """The first row that comes back to itself by open uses, None if there is none."""
    followers = {row: [use.name for use in uses[row] if use.is_open] for row in uses}
    for name in uses:
        if name in reached_from(name, followers):
            return name
    return None


def is_in_part_ring(name, uses, reached):
    """Whether the row comes back to itself by uses of which one is under a part.

    Such a round may meet a row more than once, so it is one if each of its pieces is there: from the row to
    an owner of such a use, the use, and back to the row.
    """
    for owner in [name, *reached[name]]:
        for use in uses[owner]:
            if use.parts > 0 and name in reached[use.name]:
                return True
    return False


def first_part_ring(uses):
    """The first row that comes back to itself by uses of which one is under a part, None if there is none."""
    followers = {row: [use.name for use in uses[row]] for row in uses}
    reached = {row: reached_from(row, followers) for row in uses}
    for name in uses:
        if is_in_part_ring(name, uses, reached):
            return name
    return None


def parts_inside(expression):
    """The greatest number of parts on a way that stays in this expression."""
    return max([parts for knot, is_open, parts in paths_of(expression) if not knot.inner])


def most_parts(rows, uses):
    """The greatest number of parts on a way, if no row comes back to itself under a part."""
    most = {name: parts_inside(expression) for name, expression in rows}
    # A round adds no part, so no way has more of them than one that meets each row at most once.
    for times in range(len(rows)):
        most = {name: max([most[name], *[use.parts + most[use.name] for use in uses[name]]]) for name in most}
    return max(list(most.values()))
