"""Texts of expressions taken apart.

Nothing here calls itself: a text may be nested as deep as it has room for. `make` is a function
that makes the expression of a kind, with all of it that is no expression and its inner expressions.
"""

from wovenplaces.checks import LETTERS
from wovenplaces.errors import InvalidText

FIGURES = "0123456789"
# For each word how many of its arguments stand ahead of the inner expressions, and how many of these there are.
AHEAD = {"weave": 0, "part": 2, "drop": 1, "lead": 0, "turn": 1}
BEHIND = {"part": 1, "drop": 1, "lead": 2, "turn": 1}


def piece_at(text, at):
    """The piece of a text that begins at this index.

    A run of letters, with the bracket behind it; a comma and a space; three characters from a quote on;
    any other character alone. What stands in no text of an expression comes out as a piece that fits nowhere.
    """
    end = at
    while end < len(text) and text[end] in LETTERS:
        end += 1
    if end > at:
        return text[at:end + 1] if text[end:end + 1] == "(" else text[at:end]
    if text[at] == "'":
        return text[at:at + 3]
    if text[at:at + 2] == ", ":
        return ", "
    return text[at]


def pieces_of(text):
    pieces = []
    at = 0
    while at < len(text):
        piece = piece_at(text, at)
        pieces.append(piece)
        at += len(piece)
    return pieces


def ahead_of(piece):
    """An argument that is no expression; a figure is an integer."""
    # Each number in a text has one figure, so longer ones need no reading.
    if isinstance(piece, str) and piece in FIGURES:
        return int(piece)
    return piece


def knot_of(piece, make):
    """An inner expression: a piece that stands for one, or one that has been made."""
    if not isinstance(piece, str):
        return piece
    if piece[0] == "'" and piece[-1] == "'":
        return make("sign", (piece[1:-1],), ())
    return make("name", (piece,), ())


def closed(word, pieces, text, make):
    """The expression of a word and all that stands between its brackets."""
    commas = pieces[1::2]
    parts = pieces[::2]
    if word not in AHEAD or len(commas) + 1 != len(parts) or any([comma != ", " for comma in commas]):
        raise InvalidText(text)
    many = AHEAD[word]
    told = tuple([ahead_of(part) for part in parts[:many]])
    inner = tuple([knot_of(part, make) for part in parts[many:]])
    # Where too few stand ahead, no inner one is left, so that these need no counting.
    if len(inner) != BEHIND.get(word, len(inner)):
        raise InvalidText(text)
    return make(word, told, inner)


def read_text(text, make):
    """The expression with this text; an error of a wrong value if there is none."""
    words = []
    frames = [[]]
    for piece in pieces_of(text):
        if piece[-1] == "(":
            words.append(piece[:-1])
            frames.append([])
        elif piece == ")" and words:
            knot = closed(words.pop(), frames.pop(), text, make)
            frames[-1].append(knot)
        else:
            frames[-1].append(piece)
    if words or len(frames[0]) != 1:
        raise InvalidText(text)
    return knot_of(frames[0][0], make)
