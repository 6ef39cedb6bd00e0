"""Forms of expressions and the rests to which they come.

A form is a tuple (text, step, place, word): it speaks of the places step * m + place, for all m from 0 on, of the
expression with this text, exchanged by the word. It is led on like a look as long as this is the same for all m.
"""

from wovenplaces.looks import Looking
from wovenplaces.words import composed, exchanged_answer, said_of


def is_end(rest):
    """Whether the rest is a sign or a handed name: only what has inner expressions ends in a bracket."""
    return not rest[0].endswith(")")


def is_lead(rest):
    return rest[0].startswith("lead(")


def is_sign(rest):
    return rest[0].startswith("'")


class Forms:
    """The forms of the expressions that fit a book; an expression is learned before its text stands in a form."""

    def __init__(self, book):
        self.radix = book.base
        self.letters = book.signs
        self.looking = Looking(book)
        self.learned = {}
        self.paths = {}
        self.noughts = {}

    def learn(self, expression):
        """The text of the expression, which may stand in forms from now on."""
        text = str(expression)
        self.learned[text] = expression
        return text

    def first(self, expression):
        """The rest of all places of an expression."""
        return self.rest((self.learn(expression), 1, 0, self.letters))

    def rest(self, form):
        """The rest to which a form comes; an end that says a sign is this sign as a form of its own."""
        text, step, place, word = form
        if (text, step, place) not in self.paths:
            self.paths[text, step, place] = self.path(text, step, place)
        knot, step, place, before = self.paths[text, step, place]
        word = composed(word, before, self.letters)
        if knot.kind == "sign":
            return self.sign_rest(word[self.letters.index(knot.told[0])])
        said = said_of(str(knot), place, word) if knot.kind == "name" else None
        return self.sign_rest(said) if isinstance(said, str) else (self.learn(knot), step, place, word)

    def sign_rest(self, sign):
        return f"'{sign}'", 1, 0, self.letters

    def path(self, text, step, place):
        """The knot, the step and the place to which a form without exchange comes, and its exchange on the way."""
        word = self.letters
        form = (self.learned[text], step, place)
        while form is not None:
            knot, step, place = form
            if knot.kind == "turn":
                word = composed(word, knot.told[0], self.letters)
            form = self.looking.form_led_on(knot, step, place)
        return knot, step, place, word

    def nought(self, rest):
        """The answer at the first place of a rest."""
        text, step, place, word = rest
        if is_sign(rest):
            return text[1]
        if is_end(rest):
            return text, place, word
        if (text, place) not in self.noughts:
            self.noughts[text, place] = self.looking.answer(self.learned[text], place)
        return exchanged_answer(self.noughts[text, place], word, self.letters)

    def picked(self, rest, times, more):
        """The rest of those places of a rest that have the numbers times * m + more; a sign stays as it is."""
        text, step, place, word = rest
        return rest if is_sign(rest) else self.rest((text, step * times, place + step * more, word))

    def cases(self, rest):
        """The rests that lead from a rest: none from an end."""
        if is_end(rest):
            return ()
        if is_lead(rest):
            return (self.picked(rest, 1, 1),)
        return tuple([self.picked(rest, self.radix, at) for at in range(self.radix)])

    def pair_cases(self, one, other):
        """The pairs of rests that lead from a pair in which not both are ends."""
        if is_lead(one) or is_lead(other):
            return ((self.picked(one, 1, 1), self.picked(other, 1, 1)),)
        return tuple([(self.picked(one, self.radix, at), self.picked(other, self.radix, at))
                      for at in range(self.radix)])
