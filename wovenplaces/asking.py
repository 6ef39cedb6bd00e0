"""The values that callers pass beside a book, and the errors of those that are none."""

from wovenplaces.books import Book
from wovenplaces.checks import is_integer
from wovenplaces.errors import InvalidExpression, InvalidNumber, InvalidText, NotABook, UnknownName
from wovenplaces.expressions import Expression, read_expression
from wovenplaces.fitting import first_unknown, fits


def check_book(given):
    if not isinstance(given, Book):
        raise NotABook(given)


def check_count(given):
    """For a place, a number of places and the like: an integer from 0 on."""
    if not is_integer(given) or given < 0:
        raise InvalidNumber(given)


def expression_of(given):
    """The expression that is passed, or the one whose text is passed."""
    if isinstance(given, Expression):
        return given
    try:
        return read_expression(given)
    except InvalidText:
        raise InvalidExpression(given) from None


def expression_in(book, given):
    """The expression that is passed or meant, if it fits the book and has no other names than the book."""
    expression = expression_of(given)
    unknown = first_unknown(expression, book.handed + book.names)
    if unknown is not None:
        raise UnknownName(unknown)
    if not fits(expression, book.base, book.signs):
        raise InvalidExpression(given)
    return expression
