"""Which places of the handed names a row shows, and how often; and its silent places."""

from wovenplaces.asking import check_book, check_count, check_handed, expression_in
from wovenplaces.comparing import alike
from wovenplaces.covering import index_of
from wovenplaces.expressions import Sign, Turn
from wovenplaces.places import gathered
from wovenplaces.webs import Web


def silent(book, row):
    """The least silent place, None if there is none."""
    check_book(book)
    expression = expression_in(book, row)
    # Turned to one sign, each place has this sign, but for the silent ones.
    sign = book.signs[0]
    return alike(book, Turn(sign * len(book.signs), expression), Sign(sign))


def web_of(book, row, handed):
    """The web of a row, when the book, the row and the handed name are no wrong values."""
    check_book(book)
    expression = expression_in(book, row)
    check_handed(book, handed)
    return Web(book, expression)


def shares_of(web, handed):
    """What ends paths with this handed name, as tuples (at, step, first place of it); see Web.endings."""
    return [(at, step, said[1]) for at, step, said in web.endings() if isinstance(said, tuple) and said[0] == handed]


def shown(book, row, handed):
    """The places of the handed name that are shown at some place."""
    web = web_of(book, row, handed)
    return gathered([(step, first) for at, step, first in shares_of(web, handed)])


def lost(book, row, handed):
    """The places of the handed name that are shown at no place."""
    return ~shown(book, row, handed)


def doubled(book, row, handed):
    """The places of the handed name that are shown at two places at least."""
    web = web_of(book, row, handed)
    counts = web.path_counts()
    once = gathered([])
    twice = gathered([])
    for at, step, first in shares_of(web, handed):
        share = gathered([(step, first)])
        twice = twice | (once & share if counts[at] == 1 else share)
        once = once | share
    return twice


def times(book, row, handed, place):
    """At how many places of the row this place of the handed name is shown, None if at endlessly many."""
    web = web_of(book, row, handed)
    check_count(place)
    counts = web.path_counts()
    shares = shares_of(web, handed)
    found = [counts[at] for at, step, first in shares if index_of(step, first, place) is not None]
    return None if None in found else sum(found)


def first_shown(book, row, handed, place):
    """The least place of the row at which this place of the handed name is shown, None if there is none."""
    web = web_of(book, row, handed)
    check_count(place)
    indexes = {at: index_of(step, first, place) for at, step, first in shares_of(web, handed)}
    found = [span * indexes[at] + least for at, span, least in web.arrivals() if indexes.get(at) is not None]
    return min(found) if found else None
