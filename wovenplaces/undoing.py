"""Programs that make a handed name again of what a row makes that keeps it."""

from wovenplaces.expressions import Drop, Lead, Part, Turn, Weave
from wovenplaces.limits import MOST_DROP


def opposite_word(word, signs):
    """The exchange that takes back what the word does; no sign stands in the word twice."""
    return "".join([signs[word.index(sign)] for sign in signs])


def dropped(expression, many):
    """The expression without its first places, so many."""
    while many > 0:
        expression = Drop(min(many, MOST_DROP), expression)
        many -= MOST_DROP
    return expression


def picked_out(expression, step, place, base):
    """The places step * m + place of an expression, the step being a power of the base."""
    many = place // step
    while step > 1:
        expression = Part(place % base, base, expression)
        place = place // base
        step = step // base
    return dropped(expression, many)


def brought_first(expression, place, base):
    """An expression with this place of the other one as its first."""
    if place <= MOST_DROP:
        return dropped(expression, place)
    step = 1
    while step <= place:
        step = step * base
    return picked_out(expression, step, place, base)


class Undoing:
    """What is known of a row that keeps a handed name; see classes_of for the classes."""

    def __init__(self, book, expression, classes):
        self.radix = book.base
        self.letters = book.signs
        self.expression = expression
        self.singles = {}
        self.runs = {}
        for step, first, end in classes:
            name, step_told, told, word = end
            if step == 0:
                self.singles[told] = (first, word)
            else:
                self.runs[step_told, told % step_told] = (told, step, first, word)
        self.steps = sorted(set([key[0] for key in self.runs]))

    def turned(self, expression, word):
        word = opposite_word(word, self.letters)
        return expression if word == self.letters else Turn(word, expression)

    def single(self, place):
        """An expression with this place of the handed name as its first, where it is one by itself."""
        first, word = self.singles[place]
        return self.turned(brought_first(self.expression, first, self.radix), word)

    def run(self, step, place, of):
        """The places step * m + place of the handed name, where all are of the run with this step."""
        told, row_step, first, word = self.runs[of, place % of]
        inner = picked_out(self.expression, row_step * (step // of), first + row_step * ((place - told) // of),
                           self.radix)
        return self.turned(inner, word)

    def made(self, step, place):
        """The places step * m + place of the handed name."""
        ahead = []
        while place in self.singles:
            ahead.append(self.single(place))
            place += step
        of = [some for some in self.steps if (some, place % some) in self.runs][0]
        if step >= of:
            told = self.run(step, place, of)
        else:
            told = Weave(*[self.made(step * self.radix, place + step * at) for at in range(self.radix)])
        for first in ahead[::-1]:
            told = Lead(first, told)
        return told
