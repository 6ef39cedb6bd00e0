"""A desk by lines of text."""

from wovenplaces.asking import check_book
from wovenplaces.checks import is_name
from wovenplaces.comparing import alike
from wovenplaces.desks import Desk
from wovenplaces.errors import Broken, InvalidExpression, InvalidText, InvalidWish, NothingToUndo, OpenRing, PartRing
from wovenplaces.errors import TooManyParts, UnknownName
from wovenplaces.expressions import read_expression
from wovenplaces.reading import FIGURES
from wovenplaces.shares import silent, times
from wovenplaces.walks import look

# For each beginning of a line what stands behind it: fields, and the strings between them.
PATTERNS = {
    "row ": ("name", " = ", "text"), "undo": (), "wish full ": ("text",), "wish all ": ("name", " in ", "text"),
    "wish once ": ("name", " in ", "text"), "wish alike ": ("text", " = ", "text"), "look ": ("number", " ", "text"),
    "alike ": ("text", " = ", "text"), "silent ": ("text",), "times ": ("number", " ", "name", " in ", "text"),
    "book": (),
}


def is_number(text):
    figures = len(text) > 0 and all([figure in FIGURES for figure in text])
    return figures and (text == "0" or text[0] != "0")


def is_text(text):
    """Whether this is the text of an expression."""
    try:
        read_expression(text)
    except InvalidText:
        return False
    return True


def is_field(kind, text):
    if kind == "name":
        return is_name(text)
    return is_number(text) if kind == "number" else is_text(text)


def fields_of(text, pattern):
    """The fields of a text in this pattern, None if it is not in it."""
    if len(pattern) == 0:
        return [] if text == "" else None
    fields = []
    for between in pattern[1::2]:
        # No field has the string within it that stands behind it, so the first one is the right one.
        field, found, text = text.partition(between)
        if found == "":
            return None
        fields.append(field)
    fields.append(text)
    right = [is_field(kind, field) for kind, field in zip(pattern[::2], fields)]
    return fields if all(right) else None


def read_line(line):
    """The beginning of a line and its fields; InvalidText if it is none of the lines."""
    if not isinstance(line, str):
        raise InvalidText(line)
    for beginning in PATTERNS:
        if line.startswith(beginning):
            fields = fields_of(line.removeprefix(beginning), PATTERNS[beginning])
            if fields is not None:
                return beginning, fields
    raise InvalidText(line)


def say_row(desk, fields):
    desk.put_row(fields[0], read_expression(fields[1]))
    return "ok"


def say_undo(desk, fields):
    desk.undo()
    return "ok"


def say_wish_full(desk, fields):
    desk.wish(("full", fields[0]))
    return "ok"


def say_wish_all(desk, fields):
    desk.wish(("all", fields[1], fields[0]))
    return "ok"


def say_wish_once(desk, fields):
    desk.wish(("once", fields[1], fields[0]))
    return "ok"


def say_wish_alike(desk, fields):
    desk.wish(("alike", fields[0], fields[1]))
    return "ok"


def say_look(desk, fields):
    answer = look(desk.book, fields[1], int(fields[0]))
    if answer is None:
        return "silent"
    return answer if isinstance(answer, str) else " ".join([str(part) for part in answer])


def say_alike(desk, fields):
    place = alike(desk.book, fields[0], fields[1])
    return "yes" if place is None else str(place)


def say_silent(desk, fields):
    place = silent(desk.book, fields[0])
    return "none" if place is None else str(place)


def say_times(desk, fields):
    many = times(desk.book, fields[2], fields[1], int(fields[0]))
    return "endless" if many is None else str(many)


def say_book(desk, fields):
    return str(desk.book)


ACTIONS = {
    "row ": say_row, "undo": say_undo, "wish full ": say_wish_full, "wish all ": say_wish_all,
    "wish once ": say_wish_once, "wish alike ": say_wish_alike, "look ": say_look, "alike ": say_alike,
    "silent ": say_silent, "times ": say_times, "book": say_book,
}


class Console:
    """A desk to which lines are said; the answers are strings."""

    def __init__(self, book):
        check_book(book)
        self.desk = Desk(book)

    def say(self, line):
        beginning, fields = read_line(line)
        action = ACTIONS[beginning]
        try:
            return action(self.desk, fields)
        except InvalidExpression:
            return "InvalidExpression"
        except InvalidWish:
            return "InvalidWish"
        except UnknownName:
            return "UnknownName"
        except NothingToUndo:
            return "NothingToUndo"
        except OpenRing:
            return "OpenRing"
        except PartRing:
            return "PartRing"
        except TooManyParts:
            return "TooManyParts"
        except Broken:
            return "Broken"
