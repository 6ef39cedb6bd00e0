"""The web of an expression: all rests to which its first rest leads, with the cases that lead from each.

Each place of the expression has one path from the first rest on: as far as an end, or a lead of which it is the first
place. A path that never comes there is that of a silent place.
"""

from wovenplaces.forms import Forms, is_end, is_lead


class Web:
    """The rests have numbers here, the first one 0."""

    def __init__(self, book, expression):
        self.radix = book.base
        self.forms = Forms(book)
        self.found = [self.forms.first(expression)]
        self.follow = []
        known = {self.found[0]: 0}
        while len(self.follow) < len(self.found):
            cases = self.forms.cases(self.found[len(self.follow)])
            for case in cases:
                if case not in known:
                    known[case] = len(self.found)
                    self.found.append(case)
            self.follow.append([known[case] for case in cases])

    def endings(self):
        """What ends paths, as tuples (at, step, what is said).

        An end has a step above 0 and says the answer at its first place, which goes on by the step;
        a lead has the step 0.
        """
        told = []
        for at, rest in enumerate(self.found):
            if is_end(rest):
                told.append((at, rest[1], self.forms.nought(rest)))
            elif is_lead(rest):
                told.append((at, 0, self.forms.nought(rest)))
        return told

    def path_counts(self):
        """How many paths lead to each rest, None for endlessly many."""
        counts = [0 for rest in self.found]
        counts[0] = 1
        ways = [0 for rest in self.found]
        for cases in self.follow:
            for case in cases:
                ways[case] += 1
        # A rest that is never ready lies on a round of paths or behind one.
        told = [None for rest in self.found]
        ready = [0] if ways[0] == 0 else []
        while ready:
            at = ready.pop()
            told[at] = counts[at]
            for case in self.follow[at]:
                counts[case] += counts[at]
                ways[case] -= 1
                if ways[case] == 0:
                    ready.append(case)
        return told

    def steps_on(self, at, span, place):
        """Where a path leads on from a rest at the places span * m + place: tuples of the same three."""
        cases = self.follow[at]
        if is_lead(self.found[at]):
            return [(cases[0], span, place + span)]
        return [(case, span * self.radix, place + span * digit) for digit, case in enumerate(cases)]

    def with_leads(self, places, span):
        """The rests at these places and those to which they lead by leads alone, each with its least place."""
        found = dict(places)
        waiting = [at for at in places if is_lead(self.found[at])]
        while waiting:
            lead = waiting.pop()
            at, same, place = self.steps_on(lead, span, found[lead])[0]
            if at not in found or place < found[at]:
                found[at] = place
                if is_lead(self.found[at]):
                    waiting.append(at)
        return found

    def behind_weaves(self, places, span):
        """The rests to which the weaves among these lead, each with its least place."""
        found = {}
        for weave in places:
            if not is_lead(self.found[weave]):
                for at, wider, place in self.steps_on(weave, span, places[weave]):
                    if at not in found or place < found[at]:
                        found[at] = place
        return found

    def arrivals(self):
        """Tuples (at, span, place): a path makes the places span * m + place of the expression the m of a rest.

        All paths but those of which another one to the same rest has no greater span and no greater place.
        """
        told = []
        least = {}
        span = 1
        places = {0: 0}
        while places:
            found = self.with_leads(places, span)
            near = {at: found[at] for at in found if at not in least or found[at] < least[at]}
            for at, place in near.items():
                least[at] = place
                told.append((at, span, place))
            places = self.behind_weaves(near, span)
            span = span * self.radix
        return told
