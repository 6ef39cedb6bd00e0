"""Whether wishes hold for a book, and which exchanged rows make them hold."""

from wovenplaces.asking import check_book, first_word, told_parts
from wovenplaces.books import Book
from wovenplaces.comparing import alike
from wovenplaces.errors import InvalidExchanges, InvalidWish, InvalidWishes, NoAnswer, WrongState, WrongValue
from wovenplaces.expressions import Expression
from wovenplaces.limits import MOST_EXCHANGES
from wovenplaces.shares import doubled, lost, silent

WISHES = {"alike": ("row", "row"), "full": ("row",), "all": ("row", "handed"), "once": ("row", "handed")}


def parts_of_wish(book, wish):
    """What the parts of a wish of the book tell, None if this is none."""
    kinds = WISHES.get(first_word(wish))
    return None if kinds is None else told_parts(book, kinds, wish[1:])


def shown_by_parts(book, word, parts):
    """What shows that the wish with this word does not hold, None if it holds."""
    if word == "alike":
        return alike(book, parts[0], parts[1])
    if word == "full":
        return silent(book, parts[0])
    if word == "all":
        return lost(book, parts[0], parts[1]).least
    return doubled(book, parts[0], parts[1]).least


def shown_against(book, wish):
    """None if the wish holds for the book, otherwise the least place that shows that it does not."""
    check_book(book)
    parts = parts_of_wish(book, wish)
    if parts is None:
        raise InvalidWish(wish)
    return shown_by_parts(book, wish[0], parts)


def is_exchange(book, value):
    """Whether this is a pair of a name of a row of the book and an expression."""
    if not isinstance(value, tuple) or len(value) != 2 or not isinstance(value[1], Expression):
        return False
    return isinstance(value[0], str) and value[0] in book.names


def check_exchanges(book, given):
    if not isinstance(given, tuple) or len(given) > MOST_EXCHANGES:
        raise InvalidExchanges(None)
    for index, exchange in enumerate(given):
        if not is_exchange(book, exchange):
            raise InvalidExchanges(index)


def check_wishes(book, given):
    if not isinstance(given, tuple):
        raise InvalidWishes(None)
    for index, wish in enumerate(given):
        if parts_of_wish(book, wish) is None:
            raise InvalidWishes(index)


def exchanged_book(book, exchanges):
    """The book with these exchanges, None if it is none."""
    put = dict(exchanges)
    rows = tuple([(name, put.get(name, expression)) for name, expression in book.rows])
    try:
        return Book(book.base, book.signs, book.handed, rows)
    except (WrongValue, WrongState, NoAnswer):
        return None


def is_mended(book, exchanges, wishes):
    """Whether the exchanges make a book for which all wishes hold; the parts of the wishes stay as they are in it."""
    made = exchanged_book(book, exchanges)
    if made is None:
        return False
    for wish in wishes:
        if shown_by_parts(made, wish[0], parts_of_wish(book, wish)) is not None:
            return False
    return True


def longer_lots(lots, exchanges):
    """The lots with one exchange more, behind all others and of another row than they."""
    longer = []
    for lot in lots:
        names = [exchanges[index][0] for index in lot]
        for index in range(max([-1, *lot]) + 1, len(exchanges)):
            if exchanges[index][0] not in names:
                longer.append((*lot, index))
    return longer


def has_within(lot, lots):
    """Whether one of these lots has no exchange that this one lacks."""
    return any([all([index in lot for index in less]) for less in lots])


def mending(book, exchanges, wishes):
    """All least lots of exchanges with which all wishes hold, ordered by length, then as tuples."""
    check_book(book)
    check_exchanges(book, exchanges)
    check_wishes(book, wishes)
    found = []
    lots = [()]
    while lots:
        for lot in lots:
            if not has_within(lot, found) and is_mended(book, [exchanges[index] for index in lot], wishes):
                found.append(lot)
        lots = longer_lots(lots, exchanges)
    return tuple(found)
