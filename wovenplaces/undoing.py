"""Programs that make a handed name again of what a row makes that keeps it."""

from wovenplaces.expressions import Drop, Lead, Part, Turn, Weave
from wovenplaces.limits import MOST_DROP


def opposite_word(word, signs):
    """The exchange that takes back what the word does; no sign stands in the word twice."""
    return "".join([signs[word.index(sign)] for sign in signs])


def dropped(expression, many):
    """The expression without its first places, so many."""
    while many > 0:
        expression = Drop(min(many, MOST_DROP), expression)
        many -= MOST_DROP
    return expression


def picked_out(expression, step, place, base):
    """The places step * m + place of an expression, the step being a power of the base."""
    many = place // step
    while step > 1:
        expression = Part(place % base, base, expression)
        place = place // base
        step = step // base
    return dropped(expression, many)


def brought_first(expression, place, base):
    """An expression with this place of the other one as its first."""
    if place <= MOST_DROP:
        return dropped(expression, place)
    step = 1
    while step <= place:
        step = step * base
    return picked_out(expression, step, place, base)


class Undoing:
    """What makes a handed name of a row that keeps it.

    The handed name is made of singles, places by themselves, and of runs of places, each with its step.
    """

    def __init__(self, book, expression, classes):
        self.radix = book.base
        self.letters = book.signs
        self.expression = expression
        self.singles = {}
        self.runs = {}
        for row_step, row_first, end in classes:
            name, step, first, word = end
            if step == 0:
                self.singles[first] = (row_first, word)
            else:
                self.runs[step, first % step] = (first, row_step, row_first, word)
        self.steps = sorted(set([key[0] for key in self.runs]))

    def taken_back(self, expression, word):
        word = opposite_word(word, self.letters)
        return expression if word == self.letters else Turn(word, expression)

    def single(self, place):
        """An expression with this single as its first place."""
        row_place, word = self.singles[place]
        return self.taken_back(brought_first(self.expression, row_place, self.radix), word)

    def within_run(self, step, place, run_step):
        """The places step * m + place of the handed name, all of which are in the run with this step."""
        first, row_step, row_first, word = self.runs[run_step, place % run_step]
        wider = row_step * (step // run_step)
        row_place = row_first + row_step * ((place - first) // run_step)
        return self.taken_back(picked_out(self.expression, wider, row_place, self.radix), word)

    def made(self, step, place):
        """The places step * m + place of the handed name."""
        ahead = []
        while place in self.singles:
            ahead.append(self.single(place))
            place += step
        run_step = [some for some in self.steps if (some, place % some) in self.runs][0]
        if step >= run_step:
            told = self.within_run(step, place, run_step)
        else:
            lanes = [self.made(step * self.radix, place + step * at) for at in range(self.radix)]
            told = Weave(*lanes)
        for first in ahead[::-1]:
            told = Lead(first, told)
        return told
