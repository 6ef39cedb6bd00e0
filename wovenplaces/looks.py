"""How looks lead on, and the answers to which they come.

`book` is a Book, and each expression here fits it. The tables of its rows are made once for many looks.
"""

from wovenplaces.words import composed, said_of


def inner_look(knot, place, base):
    """Where a look leads on from a knot that is neither a sign nor a name: an inner expression and a place."""
    if knot.kind == "weave":
        return knot.inner[place % base], place // base
    if knot.kind == "part":
        return knot.inner[0], base * place + knot.told[0]
    if knot.kind == "drop":
        return knot.inner[0], place + knot.told[0]
    if knot.kind == "turn":
        return knot.inner[0], place
    if place == 0:
        return knot.inner[0], 0
    return knot.inner[1], place - 1


def inner_form(knot, step, place, base):
    """Where the places step * m + place lead on from a knot that is neither a sign nor a name.

    An inner expression with another step and place, None if this is not the same for all m.
    """
    if knot.kind == "weave":
        return (knot.inner[place % base], step // base, place // base) if step > 1 else None
    if knot.kind == "part":
        return knot.inner[0], base * step, base * place + knot.told[0]
    if knot.kind == "drop":
        return knot.inner[0], step, place + knot.told[0]
    if knot.kind == "turn":
        return knot.inner[0], step, place
    return (knot.inner[1], step, place - 1) if place > 0 else None


class Looking:
    """What looks into a book need to know of it."""

    def __init__(self, book):
        self.radix = book.base
        self.letters = book.signs
        self.table = {name: expression for name, expression in book.rows}

    def program(self, knot):
        """The expression of the row of which this knot is the name, None if it is none."""
        if knot.kind == "name":
            return self.table.get(knot.told[0])
        return None

    def led_on(self, knot, place):
        """The next look, None if this one ends."""
        if knot.kind == "sign":
            return None
        if knot.kind == "name":
            program = self.program(knot)
            return None if program is None else (program, place)
        return inner_look(knot, place, self.radix)

    def form_led_on(self, knot, step, place):
        """Where the places step * m + place lead on, None if this is not the same for all m, or if they end."""
        if knot.kind == "sign":
            return None
        if knot.kind == "name":
            program = self.program(knot)
            return None if program is None else (program, step, place)
        return inner_form(knot, step, place, self.radix)

    def answer(self, knot, place):
        """The answer of a look."""
        word = self.letters
        seen = set()
        follower = self.led_on(knot, place)
        while follower is not None:
            if knot.kind == "turn":
                word = composed(word, knot.told[0], self.letters)
            if knot.kind == "name":
                # Each round meets the name of a row, so only these are kept.
                if (knot.told[0], place) in seen:
                    return None
                seen.add((knot.told[0], place))
            knot, place = follower
            follower = self.led_on(knot, place)
        if knot.kind == "sign":
            return word[self.letters.index(knot.told[0])]
        return said_of(knot.told[0], place, word)

    def walk(self, knot, place):
        """The looks of a walk as pairs of a text and a place; the last one ends, or was there before."""
        told = []
        seen = set()
        follower = (knot, place)
        while follower is not None:
            knot, place = follower
            told.append((str(knot), place))
            if (str(knot), place) in seen:
                return told
            seen.add((str(knot), place))
            follower = self.led_on(knot, place)
        return told
