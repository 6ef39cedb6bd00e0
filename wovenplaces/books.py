"""Books of rows, and the reading of their texts."""

from wovenplaces.checks import LEAST_BASE, check_within, is_lettered, is_name
from wovenplaces.errors import InvalidExpression, InvalidHanded, InvalidRows, InvalidText, InvalidWord, UnknownName
from wovenplaces.errors import NoAnswer, OpenRing, PartRing, TooManyParts, WrongState, WrongValue
from wovenplaces.expressions import Expression, read_expression
from wovenplaces.fitting import first_unknown, fits
from wovenplaces.limits import MOST_BASE, MOST_HANDED, MOST_KNOTS, MOST_PARTS, MOST_ROWS, MOST_SIGNS
from wovenplaces.rings import first_open_ring, first_part_ring, most_parts, uses_by_row

BASES = {"base 2": 2, "base 3": 3, "base 4": 4}


class Book:
    """A base, signs, handed names, and rows that are made of these and of one another."""

    def __init__(self, base, signs, handed, rows):
        check_within(base, LEAST_BASE, MOST_BASE)
        check_signs(signs)
        check_handed_names(handed)
        check_pairs(rows, handed)
        check_rules(base, signs, handed, rows)
        self.radix = base
        self.letters = signs
        self.givens = handed
        self.pairs = rows
        self.table = {name: expression for name, expression in rows}
        self.text = spelled_book(base, signs, handed, rows)

    @classmethod
    def read(cls, text):
        base, signs, handed, rows = pieces_of_book(text)
        try:
            book = cls(base, signs, handed, rows)
        except (WrongValue, WrongState, NoAnswer):
            raise InvalidText(text) from None
        # The pieces may have been found in a text that is written otherwise.
        if str(book) != text:
            raise InvalidText(text)
        return book

    @property
    def base(self):
        return self.radix

    @property
    def signs(self):
        return self.letters

    @property
    def handed(self):
        return self.givens

    @property
    def rows(self):
        return self.pairs

    @property
    def names(self):
        return tuple([pair[0] for pair in self.pairs])

    def row(self, name):
        if not isinstance(name, str) or name not in self.table:
            raise UnknownName(name)
        return self.table[name]

    def with_row(self, name, expression):
        """The book in which this row has another expression."""
        self.row(name)
        if not isinstance(expression, Expression):
            raise InvalidExpression(expression)
        rows = [(own, expression if own == name else kept) for own, kept in self.pairs]
        return Book(self.radix, self.letters, self.givens, tuple(rows))

    def __str__(self):
        return str(self.text)

    def __repr__(self):
        return f"Book of {len(self.pairs)} rows"

    def __eq__(self, other):
        return isinstance(other, Book) and self.text == other.text

    def __len__(self):
        return len(self.pairs)


def check_signs(given):
    if not is_lettered(given, MOST_SIGNS) or len(set(given)) != len(given):
        raise InvalidWord(given)


def check_handed_names(given):
    if not isinstance(given, tuple) or len(given) > MOST_HANDED:
        raise InvalidHanded(None)
    for at, name in enumerate(given):
        if not is_name(name) or name in given[:at]:
            raise InvalidHanded(at)


def is_pair(value):
    """Whether this is a pair of a name and an expression."""
    return isinstance(value, tuple) and len(value) == 2 and is_name(value[0]) and isinstance(value[1], Expression)


def check_pairs(given, handed):
    if not isinstance(given, tuple) or not 1 <= len(given) <= MOST_ROWS:
        raise InvalidRows(None)
    taken = list(handed)
    for at, pair in enumerate(given):
        if not is_pair(pair) or pair[0] in taken:
            raise InvalidRows(at)
        taken.append(pair[0])


def check_rules(base, signs, handed, rows):
    """The errors that are looked for when each argument of a book is one by itself."""
    names = [*handed, *[pair[0] for pair in rows]]
    for name, expression in rows:
        unknown = first_unknown(expression, names)
        if unknown is not None:
            raise UnknownName(unknown)
    for name, expression in rows:
        if expression.knots > MOST_KNOTS or not fits(expression, base, signs):
            raise InvalidExpression(expression)
    uses = uses_by_row(rows)
    name = first_open_ring(uses)
    if name is not None:
        raise OpenRing(name)
    name = first_part_ring(uses)
    if name is not None:
        raise PartRing(name)
    many = most_parts(rows, uses)
    if many > MOST_PARTS:
        raise TooManyParts(many)


def spelled_book(base, signs, handed, rows):
    lines = [f"base {base}", f"signs {signs}", " ".join(["handed", *handed])]
    for name, expression in rows:
        lines.append(f"row {name} = {str(expression)}")
    return "\n".join(lines)


def row_of_line(line):
    """The name and the expression that a line tells; InvalidText if it tells none."""
    name, equals, text = line.removeprefix("row ").partition(" = ")
    return name, read_expression(text)


def pieces_of_book(text):
    """The arguments with which a book with this text is made, if there is one."""
    if not isinstance(text, str):
        raise InvalidText(text)
    lines = text.split("\n")
    if len(lines) < 3 or lines[0] not in BASES:
        raise InvalidText(text)
    signs = lines[1].removeprefix("signs ")
    handed = tuple(lines[2].split(" ")[1:])
    try:
        rows = tuple([row_of_line(line) for line in lines[3:]])
    except InvalidText:
        raise InvalidText(text) from None
    return BASES[lines[0]], signs, handed, rows
