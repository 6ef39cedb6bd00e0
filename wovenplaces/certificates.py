"""Claims about rows, with the certificates that the checker accepts for them."""

from wovenplaces.asking import check_book, check_count, check_handed, expression_in
from wovenplaces.comparing import alike
from wovenplaces.forms import Forms, is_end
from wovenplaces.keeping import kept_row
from wovenplaces.shares import first_shown, silent
from wovenplaces.webs import Web


def pairs_behind(book, one, other):
    """All pairs of rests to which that of two alike expressions leads, this one ahead."""
    forms = Forms(book)
    pairs = [(forms.first(one), forms.first(other))]
    known = {pairs[0]: True}
    done = 0
    while done < len(pairs):
        left, right = pairs[done]
        done += 1
        cases = () if is_end(left) and is_end(right) else forms.pair_cases(left, right)
        for pair in cases:
            if pair not in known:
                known[pair] = True
                pairs.append(pair)
    return tuple(pairs)


def certify_alike(book, one, other):
    """That the two are alike, or the least place at which they are parted."""
    check_book(book)
    left = expression_in(book, one)
    right = expression_in(book, other)
    place = alike(book, left, right)
    if place is not None:
        return ("parted", str(book), str(left), str(right), place), ()
    return ("alike", str(book), str(left), str(right)), pairs_behind(book, left, right)


def certify_full(book, row):
    """That no place is silent, or the least place that is."""
    check_book(book)
    expression = expression_in(book, row)
    place = silent(book, expression)
    if place is not None:
        return ("silent", str(book), str(expression), place), ()
    return ("full", str(book), str(expression)), tuple(Web(book, expression).found)


def certify_place(book, row, handed, place):
    """The least place at which this place of the handed name is shown, or that it is lost."""
    check_book(book)
    expression = expression_in(book, row)
    check_handed(book, handed)
    check_count(place)
    least = first_shown(book, expression, handed, place)
    if least is not None:
        return ("shown", str(book), str(expression), handed, place, least), ()
    return ("lost", str(book), str(expression), handed, place), tuple(Web(book, expression).found)


def certify_keeps(book, row, handed):
    """That the row keeps this handed name."""
    expression, found = kept_row(book, row, handed)
    return ("keeps", str(book), str(expression), handed), found
