"""Rows as strands: of a strand each K-th places make a strand again, K being the base of a book.

A strand is a pair: a tuple of answers, those of its first places, and a tail for all places behind them.
A tail is a tuple (kind, text, step, place, word). Of a handed name or a weave it speaks of the places
step * m + place, exchanged by the word; a weave has the step 1. A sign has no steps and no word.
Only so many strands with weaves come of one strand, and two without weaves are the same row only if they are equal.
"""

from wovenplaces.looks import Looking
from wovenplaces.words import composed, exchanged_answer, said_of


def sign_tail(sign):
    return "sign", sign, 0, 0, ""


def name_tail(name, step, place, word):
    said = said_of(name, place, word)
    return sign_tail(said) if isinstance(said, str) else ("name", name, step, place, word)


def exchanged_tail(tail, word, signs):
    kind, text, step, place, before = tail
    if kind == "sign":
        return sign_tail(word[signs.index(text)])
    after = composed(word, before, signs)
    return name_tail(text, step, place, after) if kind == "name" else (kind, text, step, place, after)


def longer_tail(tail):
    """The tail with the place ahead of it, None if there is none."""
    kind, text, step, place, word = tail
    if kind == "weave" or place < step:
        return None
    return kind, text, step, place - step, word


def end_nought(tail):
    """The answer at the first place of a tail that is no weave."""
    kind, text, step, place, word = tail
    return text if kind == "sign" else (text, place, word)


def closed(ahead, tail):
    """The strand of some answers and a tail, which takes over the answers that it can tell itself."""
    many = len(ahead)
    longer = longer_tail(tail)
    while many > 0 and longer is not None and ahead[many - 1] == end_nought(longer):
        many -= 1
        tail = longer
        longer = longer_tail(tail)
    return ahead[:many], tail


class Strands:
    """The strands of the expressions that fit a book."""

    def __init__(self, book):
        self.radix = book.base
        self.letters = book.signs
        self.looking = Looking(book)
        self.weaves = {}
        self.threads = {}
        self.noughts = {}

    def strand(self, knot, step, place):
        """The strand of the places step * m + place of an expression."""
        word = self.letters
        ahead = []
        form = (knot, step, place)
        while form is not None:
            knot, step, place = form
            if knot.kind == "turn":
                word = composed(word, knot.told[0], self.letters)
            form = self.looking.form_led_on(knot, step, place)
            if form is None and knot.kind == "lead":
                answer = self.looking.answer(knot.inner[0], 0)
                ahead.append(exchanged_answer(answer, word, self.letters))
                form = (knot.inner[1], step, step - 1)
        return closed(tuple(ahead), self.tail(knot, step, place, word))

    def tail(self, knot, step, place, word):
        """The tail of an expression whose places do not lead on as one."""
        if knot.kind == "sign":
            return sign_tail(word[self.letters.index(knot.told[0])])
        if knot.kind == "name":
            return name_tail(knot.told[0], step, place, word)
        self.weaves[str(knot)] = knot
        return "weave", str(knot), step, place, word

    def part(self, strand, at):
        """The strand of the places K * m + at of a strand."""
        ahead, tail = strand
        picked = ahead[at::self.radix]
        more, rest = self.tail_part(tail, self.radix * len(picked) + at - len(ahead))
        return closed(picked + more, rest)

    def tail_part(self, tail, at):
        kind, text, step, place, word = tail
        if kind != "weave":
            return (), (kind, text, step * self.radix, place + at * step, word)
        ahead, rest = self.thread(text, place + at)
        told = tuple([exchanged_answer(answer, word, self.letters) for answer in ahead])
        return told, exchanged_tail(rest, word, self.letters)

    def thread(self, text, place):
        """The strand of the places K * m + place of a weave."""
        if (text, place) not in self.threads:
            inner = self.weaves[text].inner[place % self.radix]
            self.threads[text, place] = self.strand(inner, 1, place // self.radix)
        return self.threads[text, place]

    def nought(self, strand):
        """The answer at the first place of a strand."""
        ahead, tail = strand
        if ahead:
            return ahead[0]
        kind, text, step, place, word = tail
        if kind != "weave":
            return end_nought(tail)
        if (text, place) not in self.noughts:
            self.noughts[text, place] = self.looking.answer(self.weaves[text], place)
        return exchanged_answer(self.noughts[text, place], word, self.letters)
