"""Looks: which place of which handed name stands at a place of a row, or which sign, or nothing."""

from wovenplaces.asking import check_book, check_count, expression_in
from wovenplaces.looks import Looking


def look(book, row, place):
    """None for a silent place, a sign, or a handed name with its place and the exchange."""
    check_book(book)
    expression = expression_in(book, row)
    check_count(place)
    return Looking(book).answer(expression, place)


def walked(book, row, place):
    """The looks of the walk as pairs of a text and a place."""
    check_book(book)
    expression = expression_in(book, row)
    check_count(place)
    return tuple(Looking(book).walk(expression, place))


def answers(book, row, first, many):
    """The answers at so many places from the first one on, one by one."""
    check_book(book)
    expression = expression_in(book, row)
    check_count(first)
    check_count(many)
    looking = Looking(book)
    for place in range(first, first + many):
        yield looking.answer(expression, place)
