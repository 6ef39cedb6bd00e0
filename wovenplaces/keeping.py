"""Whether a row keeps a handed name, what undoes it, and how far it looks ahead."""

from wovenplaces.asking import check_book, check_handed, expression_in
from wovenplaces.covering import covers_once
from wovenplaces.errors import NotKept
from wovenplaces.forms import is_end
from wovenplaces.shares import web_of
from wovenplaces.undoing import Undoing
from wovenplaces.webs import Web


def end_of_class(answer, step):
    """The end of a class whose first place has this answer; the step is that of the handed name."""
    if isinstance(answer, str):
        return answer
    name, place, word = answer
    return name, step, place, word


def classes_of(book, expression):
    """The classes of a row by their first places, None if its walks have no greatest length."""
    web = Web(book, expression)
    endings = {at: (step, said) for at, step, said in web.endings()}
    if None in web.path_counts() or None in [endings[at][1] for at in endings]:
        return None
    found = {}
    waiting = [(0, 1, 0)]
    while waiting:
        at, span, place = waiting.pop()
        if at in endings:
            step, said = endings[at]
            found[place] = (span if is_end(web.found[at]) else 0, place, end_of_class(said, step))
        waiting.extend(web.steps_on(at, span, place))
    return tuple([found[place] for place in sorted(found)])


def is_kept(end, handed):
    """Whether the end of a class is this handed name with an exchange that can be taken back."""
    return isinstance(end, tuple) and end[0] == handed and len(set(end[3])) == len(end[3])


def kept_classes(book, expression, handed):
    """The classes of a row that keeps this handed name, None if it does not."""
    found = classes_of(book, expression)
    if found is None or not all([is_kept(end, handed) for step, first, end in found]):
        return None
    return found if covers_once([(end[1], end[2]) for step, first, end in found]) else None


def keeps(book, row, handed):
    """Whether the row shows each place of the handed name just once and nothing else, so that it can be undone."""
    check_book(book)
    expression = expression_in(book, row)
    check_handed(book, handed)
    return kept_classes(book, expression, handed) is not None


def kept_row(book, row, handed):
    """The expression of a row that keeps this handed name, and its classes."""
    check_book(book)
    expression = expression_in(book, row)
    check_handed(book, handed)
    found = kept_classes(book, expression, handed)
    if found is None:
        raise NotKept(row)
    return expression, found


def undone(book, row, handed):
    """An expression of what the row makes that is alike to the handed name."""
    expression, found = kept_row(book, row, handed)
    return Undoing(book, expression, found).made(1, 0)


def classes(book, row):
    """The classes of the row, sorted by their first places; None if its walks have no greatest length."""
    check_book(book)
    return classes_of(book, expression_in(book, row))


def ahead(book, row, handed):
    """The least c so that no place q of the handed name is shown ahead of the place q - c; None if there is none."""
    web = web_of(book, row, handed)
    endings = {at: (step, said) for at, step, said in web.endings()}
    most = 0
    for at, span, place in web.arrivals():
        step, said = endings.get(at, (0, None))
        if isinstance(said, tuple) and said[0] == handed:
            if step > span:
                return None
            most = max(most, said[1] - place)
    return most
