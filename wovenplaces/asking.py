"""The values that callers pass beside a book, and the errors of those that are none."""

from wovenplaces.books import Book
from wovenplaces.checks import is_integer
from wovenplaces.errors import InvalidExpression, InvalidNumber, InvalidText, NotABook, UnknownName
from wovenplaces.expressions import Expression, read_expression
from wovenplaces.fitting import first_unknown, fits


def check_book(given):
    if not isinstance(given, Book):
        raise NotABook(given)


def is_count(value):
    """Whether this can be a place, a number of places and the like: an integer from 0 on."""
    return is_integer(value) and value >= 0


def check_count(given):
    if not is_count(given):
        raise InvalidNumber(given)


def is_handed(book, value):
    return isinstance(value, str) and value in book.handed


def check_handed(book, given):
    if not is_handed(book, given):
        raise UnknownName(given)


def expression_of(given):
    """The expression that is passed, or the one whose text is passed."""
    if isinstance(given, Expression):
        return given
    try:
        return read_expression(given)
    except InvalidText:
        raise InvalidExpression(given) from None


def expression_in(book, given):
    """The expression that is passed or meant, if it fits the book and has no other names than the book."""
    expression = expression_of(given)
    unknown = first_unknown(expression, book.handed + book.names)
    if unknown is not None:
        raise UnknownName(unknown)
    if not fits(expression, book.base, book.signs):
        raise InvalidExpression(given)
    return expression


def told_part(book, kind, value):
    """What a part of a wish or a claim tells: an expression, a handed name or a place; None if nothing."""
    if kind == "handed":
        return value if is_handed(book, value) else None
    if kind == "place":
        return value if is_count(value) else None
    try:
        return expression_in(book, value) if isinstance(value, str) else None
    except (InvalidExpression, UnknownName):
        return None


def told_parts(book, kinds, values):
    """What the parts of a wish or a claim tell, None if they are not of these kinds."""
    if len(values) != len(kinds):
        return None
    told = [told_part(book, kind, value) for kind, value in zip(kinds, values)]
    return None if any([part is None for part in told]) else told


def first_word(value):
    """The string that stands first in a tuple, None if the value is no such tuple."""
    if not isinstance(value, tuple) or len(value) == 0 or not isinstance(value[0], str):
        return None
    return value[0]
