"""Endless rows that are known, and rows of a book in which they stand for the handed names."""

from wovenplaces.asking import check_book, check_count, expression_in
from wovenplaces.checks import LETTERS
from wovenplaces.errors import InvalidRounds, InvalidText
from wovenplaces.looks import Looking


class Round:
    """The row with the signs of a head, then those of a loop again and again."""

    def __init__(self, head, loop):
        check_lettered(head, 0)
        check_lettered(loop, 1)
        least = shortest_loop(loop)
        many = turned_back(head, least)
        at = -many % len(least)
        self.front = head[:len(head) - many]
        self.again = least[at:] + least[:at]

    @property
    def head(self):
        return self.front

    @property
    def loop(self):
        return self.again

    def __getitem__(self, at):
        check_count(at)
        if at < len(self.front):
            return self.front[at]
        return self.again[(at - len(self.front)) % len(self.again)]

    def __iter__(self):
        raise TypeError("a row is endless")

    def first(self, many):
        """The string of the first signs, so many."""
        check_count(many)
        times = many // len(self.again) + 1
        return (self.front + self.again * times)[:many]

    def __eq__(self, other):
        return isinstance(other, Round) and self.front == other.front and self.again == other.again

    def __str__(self):
        return f"{self.front}({self.again})"

    def __repr__(self):
        return f"Round({self.front}({self.again}))"


class Told:
    """The row that an expression makes when the handed names are known."""

    def __init__(self, book, row, given):
        check_book(book)
        expression = expression_in(book, row)
        check_rounds(book, given)
        self.looking = Looking(book)
        self.expression = expression
        self.known = {name: given[name] for name in book.handed}

    def sign(self, place):
        """The sign at a place, None if it is silent."""
        check_count(place)
        return self.sign_at(place)

    def first(self, many):
        """The string of the first signs, so many, with a dot for a silent place."""
        check_count(many)
        signs = [self.sign_at(place) for place in range(many)]
        return "".join(["." if sign is None else sign for sign in signs])

    def sign_at(self, place):
        answer = self.looking.answer(self.expression, place)
        if answer is None or isinstance(answer, str):
            return answer
        name, shown, word = answer
        known = self.known[name]
        return word[self.looking.letters.index(known[shown])]


def check_lettered(given, least):
    """A string of so many signs at least."""
    if not isinstance(given, str) or len(given) < least or not all([letter in LETTERS for letter in given]):
        raise InvalidText(given)


def shortest_loop(loop):
    """The shortest string that makes this one, put behind itself some times."""
    for many in range(1, len(loop)):
        if len(loop) % many == 0 and loop[:many] * (len(loop) // many) == loop:
            return loop[:many]
    return loop


def turned_back(head, loop):
    """How many signs at the end of the head go on backwards what the loop goes on forwards."""
    many = 0
    while many < len(head) and head[-1 - many] == loop[-1 - many % len(loop)]:
        many += 1
    return many


def is_round_of(value, signs):
    return isinstance(value, Round) and all([sign in signs for sign in value.head + value.loop])


def check_rounds(book, given):
    if not isinstance(given, dict) or len(given) != len(book.handed):
        raise InvalidRounds(given)
    for name in book.handed:
        if name not in given or not is_round_of(given[name], book.signs):
            raise InvalidRounds(given)
