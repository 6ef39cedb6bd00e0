"""Classes of things that are taken for the same."""


class Classes:
    """Each thing is at first in a class of its own; the things are keys of a dict."""

    def __init__(self):
        self.leaders = {}

    def leader(self, thing):
        """The one thing that speaks for all of its class."""
        path = []
        while thing in self.leaders:
            path.append(thing)
            thing = self.leaders[thing]
        # Later questions take the short way.
        for passed in path:
            self.leaders[passed] = thing
        return thing

    def unite(self, one, other):
        """Makes one class of two; whether they were two."""
        first = self.leader(one)
        second = self.leader(other)
        if first == second:
            return False
        self.leaders[first] = second
        return True
