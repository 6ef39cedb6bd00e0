"""Whether two programs make the same row, whatever the handed rows are."""

from wovenplaces.asking import check_book, check_count, expression_in
from wovenplaces.joining import Classes
from wovenplaces.looks import Looking
from wovenplaces.strands import Strands


def least_parting(strands, one, other):
    """The least place at which two strands have not the same answer, None if there is none.

    The round with the number r looks at all places below K ** r, the K-th parts of the pairs before. A pair is left
    out if it follows from pairs that were there before: if its strands part, some of those part at no later place.
    """
    classes = Classes()
    pairs = [(one, other, 0)]
    step = 1
    while pairs:
        kept = []
        for left, right, place in pairs:
            if classes.unite(left, right):
                if strands.nought(left) != strands.nought(right):
                    return place
                kept.append((left, right, place))
        # The places stay in ascending order, so the first one that is found is the least.
        pairs = [(strands.part(left, at), strands.part(right, at), place + step * at)
                 for at in range(strands.radix) for left, right, place in kept]
        step = step * strands.radix
    return None


def alike(book, one, other):
    """None if the two are alike, otherwise the least place at which their answers are not the same."""
    check_book(book)
    left = expression_in(book, one)
    right = expression_in(book, other)
    strands = Strands(book)
    return least_parting(strands, strands.strand(left, 1, 0), strands.strand(right, 1, 0))


def agree(book, one, other, place):
    """Whether the answers of the two at this place are the same."""
    check_book(book)
    left = expression_in(book, one)
    right = expression_in(book, other)
    check_count(place)
    looking = Looking(book)
    return looking.answer(left, place) == looking.answer(right, place)
