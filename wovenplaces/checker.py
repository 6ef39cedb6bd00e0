"""The checker of claims, which believes nothing that a certificate does not show."""

from wovenplaces.asking import first_word, is_count, told_part, told_parts
from wovenplaces.books import Book
from wovenplaces.checks import is_integer
from wovenplaces.covering import covers_once, index_of
from wovenplaces.errors import InvalidText
from wovenplaces.fitting import fits_word
from wovenplaces.forms import Forms, is_end

CLAIMS = {
    "alike": ("row", "row"), "parted": ("row", "row", "place"), "full": ("row",), "silent": ("row", "place"),
    "lost": ("row", "handed", "place"), "shown": ("row", "handed", "place", "place"), "keeps": ("row", "handed"),
}


def is_empty(certificate):
    return isinstance(certificate, tuple) and len(certificate) == 0


class Checking:
    """What is asked of the values in a certificate, whatever they are."""

    def __init__(self, book):
        self.volume = book
        self.forms = Forms(book)

    def answer(self, row, place):
        return self.forms.looking.answer(row, place)

    def is_power(self, value):
        """Whether this is a power of the base, 1 included."""
        if not is_integer(value) or value < 1:
            return False
        while value % self.volume.base == 0:
            value = value // self.volume.base
        return value == 1

    def is_word(self, value):
        return isinstance(value, str) and fits_word(value, self.volume.signs)

    def is_learned(self, value):
        """Whether this is the text of an expression that fits the book; the forms know it then."""
        if not isinstance(value, str):
            return False
        if value not in self.forms.learned:
            row = told_part(self.volume, "row", value)
            if row is None:
                return False
            self.forms.learn(row)
        return True

    def is_rest(self, value):
        if not isinstance(value, tuple) or len(value) != 4:
            return False
        text, step, place, word = value
        if not self.is_learned(text) or not self.is_power(step) or not is_count(place) or not self.is_word(word):
            return False
        return self.forms.rest(value) == value

    def is_pair(self, value):
        return isinstance(value, tuple) and len(value) == 2 and self.is_rest(value[0]) and self.is_rest(value[1])

    def is_class(self, value, row, handed):
        """Whether this is a class of the row with the handed name, and an exchange that can be taken back."""
        if not isinstance(value, tuple) or len(value) != 3 or not isinstance(value[2], tuple) or len(value[2]) != 4:
            return False
        step, first, end = value
        name, step_told, told, word = end
        if not all([is_count(number) for number in (step, first, step_told, told)]) or not self.is_word(word):
            return False
        if not isinstance(name, str) or name != handed or len(set(word)) != len(word):
            return False
        if step == 0:
            return step_told == 0 and self.answer(row, first) == (name, told, word)
        if not self.is_power(step) or not self.is_power(step_told):
            return False
        return self.forms.rest((self.forms.learn(row), step, first, self.volume.signs)) == end


def table_of(certificate, is_right):
    """A dict that has the elements of a tuple as keys, None if one of them is not right or stands there twice."""
    if not isinstance(certificate, tuple):
        return None
    found = {}
    for value in certificate:
        if not is_right(value) or value in found:
            return None
        found[value] = True
    return found


def pair_holds(forms, one, other, pairs):
    """Whether a pair of rests is the same if all of these pairs are."""
    if is_end(one) and is_end(other):
        return one == other
    if forms.nought(one) != forms.nought(other):
        return False
    return all([pair in pairs for pair in forms.pair_cases(one, other)])


def accepts_alike(checking, parts, certificate):
    pairs = table_of(certificate, lambda value: checking.is_pair(value))
    forms = checking.forms
    if not pairs or certificate[0] != (forms.first(parts[0]), forms.first(parts[1])):
        return False
    return all([pair_holds(forms, one, other, pairs) for one, other in certificate])


def accepts_parted(checking, parts, certificate):
    one, other, place = parts
    return is_empty(certificate) and checking.answer(one, place) != checking.answer(other, place)


def is_closed(checking, row, certificate):
    """Whether this is a tuple of rests, none twice, with the first one of the row and with all cases."""
    rests = table_of(certificate, lambda value: checking.is_rest(value))
    if not rests or certificate[0] != checking.forms.first(row):
        return False
    return all([case in rests for rest in certificate for case in checking.forms.cases(rest)])


def accepts_full(checking, parts, certificate):
    if not is_closed(checking, parts[0], certificate):
        return False
    return all([checking.forms.nought(rest) is not None for rest in certificate])


def accepts_silent(checking, parts, certificate):
    row, place = parts
    return is_empty(certificate) and checking.answer(row, place) is None


def shows(forms, rest, handed, place):
    """Whether a rest shows this place of the handed name: an end anywhere, another one at nought."""
    said = forms.nought(rest)
    if not isinstance(said, tuple) or said[0] != handed:
        return False
    return index_of(rest[1] if is_end(rest) else 0, said[1], place) is not None


def accepts_lost(checking, parts, certificate):
    row, handed, place = parts
    if not is_closed(checking, row, certificate):
        return False
    return not any([shows(checking.forms, rest, handed, place) for rest in certificate])


def accepts_shown(checking, parts, certificate):
    row, handed, told, place = parts
    answer = checking.answer(row, place)
    return is_empty(certificate) and isinstance(answer, tuple) and answer[:2] == (handed, told)


def accepts_keeps(checking, parts, certificate):
    row, handed = parts
    if not isinstance(certificate, tuple):
        return False
    if not all([checking.is_class(value, row, handed) for value in certificate]):
        return False
    rows = covers_once([(step, first) for step, first, end in certificate])
    return rows and covers_once([(end[1], end[2]) for step, first, end in certificate])


ACCEPTS = {
    "alike": accepts_alike, "parted": accepts_parted, "full": accepts_full, "silent": accepts_silent,
    "lost": accepts_lost, "shown": accepts_shown, "keeps": accepts_keeps,
}


def book_told(value):
    """The book with this text, None if there is none."""
    try:
        return Book.read(value)
    except InvalidText:
        return None


def accepts(claim, certificate):
    """Whether this is a claim for the checker and a certificate for it, whatever both are."""
    kinds = CLAIMS.get(first_word(claim))
    book = None if kinds is None or len(claim) < 2 else book_told(claim[1])
    if book is None:
        return False
    parts = told_parts(book, kinds, claim[2:])
    if parts is None:
        return False
    action = ACCEPTS[claim[0]]
    return action(Checking(book), parts, certificate)
