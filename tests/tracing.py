"""What rows show, by all paths of their rests; told otherwise than in the program, and slow.

The rests are those of tests.pairing. A piece is a tuple (a, b, end): the places a * m + b of the row for all m, or b
alone if a is 0, end as the same; its end is a sign, or a tuple (X, A, B, w) as in point [13] of the document.
"""

from tests.pairing import at_nought, moved, rest_of


def is_end(rest):
    return rest[0][0] in ("sign", "name")


def next_rests(drawn, rest):
    if is_end(rest):
        return []
    if rest[0][0] == "lead":
        return [moved(drawn, rest, 1, 1)]
    return [moved(drawn, rest, drawn.base, at) for at in range(drawn.base)]


def graph_of(drawn, plan):
    """All rests to which the first one leads, this one ahead, with those that lead from each."""
    waiting = [rest_of(drawn, plan, 1, 0, drawn.signs)]
    graph = {}
    while waiting:
        rest = waiting.pop(0)
        if rest not in graph:
            graph[rest] = next_rests(drawn, rest)
            waiting += graph[rest]
    return graph


def end_said(drawn, rest, step):
    said = at_nought(drawn, rest)
    return said if said is None or isinstance(said, str) else (said[0], step, said[1], said[2])


def own_piece(drawn, rest):
    """The piece of an end, or of the first place of a lead, in the numbers m of this rest."""
    if is_end(rest):
        return [(1, 0, end_said(drawn, rest, rest[1]))]
    return [(0, 0, end_said(drawn, rest, 0))] if rest[0][0] == "lead" else []


def pieces_of(drawn, plan):
    """All pieces of a row, None if its walks have no greatest length."""
    graph = graph_of(drawn, plan)
    known, around = {}, set()

    def pieces_from(rest):
        if rest in around:
            raise RecursionError
        if rest not in known:
            around.add(rest)
            pieces = own_piece(drawn, rest)
            if any(end is None for _, _, end in pieces):
                raise RecursionError
            for at, case in enumerate(graph[rest]):
                times, more = (1, 1) if rest[0][0] == "lead" else (drawn.base, at)
                pieces += [(times * a, times * b + more, end) for a, b, end in pieces_from(case)]
            around.discard(rest)
            known[rest] = pieces
        return known[rest]

    try:
        return pieces_from(next(iter(graph)))
    except RecursionError:
        return None


def has(piece, name, place):
    """Whether this place of the handed name stands in the piece."""
    end = piece[2]
    if not isinstance(end, tuple) or end[0] != name:
        return False
    return place >= end[2] and (place - end[2]) % end[1] == 0 if end[1] else place == end[2]


def reached(graph, rest):
    found, waiting = set(), list(graph[rest])
    while waiting:
        case = waiting.pop()
        if case not in found:
            found.add(case)
            waiting += graph[case]
    return found


class Counting:
    """How often the places of the handed names are shown."""

    def __init__(self, drawn, plan):
        self.graph = graph_of(drawn, plan)
        self.first = next(iter(self.graph))
        self.own = {rest: own_piece(drawn, rest) for rest in self.graph}
        self.reached = {rest: reached(self.graph, rest) for rest in self.graph}

    def times(self, name, place):
        """At how many places, None if at endlessly many."""
        hits = {rest for rest in self.graph if any(has(piece, name, place) for piece in self.own[rest])}
        for rest in self.graph:
            if rest in self.reached[rest] and hits & self.reached[rest]:
                return None
        known = {}

        def times_from(rest):
            if rest not in known:
                known[rest] = (rest in hits) + sum(times_from(case) for case in self.graph[rest]
                                                   if case in hits or hits & self.reached[case])
            return known[rest]

        return times_from(self.first)


def covers_once(pairs, most=200000):
    """Whether each place stands in just one of these, by trying all that matter: (step, first), the first alone if 0."""
    far = max([first for _, first in pairs], default=0) + 2 * max([step for step, _ in pairs], default=0) + 1
    assert far <= most, "too far to try"
    found = [0] * far
    for step, first in pairs:
        for place in range(first, far, step) if step else (first,):
            found[place] += 1
    return all(many == 1 for many in found) and any(step for step, _ in pairs)


def is_kept(pieces, name):
    """Whether a row of these pieces keeps the handed name."""
    if pieces is None or not all(isinstance(end, tuple) and end[0] == name for _, _, end in pieces):
        return False
    if any(len(set(end[3])) < len(end[3]) for _, _, end in pieces):
        return False
    return covers_once([(end[1], end[2]) for _, _, end in pieces])
