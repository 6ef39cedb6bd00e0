"""What numbers, signs, names and words are, and the errors of values that are none."""

from wovenplaces.errors import InvalidName, InvalidNumber, InvalidSign, InvalidWord
from wovenplaces.limits import MOST_SIGNS

LETTERS = "abcdefghijklmnopqrstuvwxyz"
LEAST_BASE = 2
MOST_LETTERS = 8
NO_NAMES = ("weave", "part", "drop", "lead", "turn")


def is_integer(value):
    # True and False are of the class int, too, but no integers here.
    return isinstance(value, int) and not isinstance(value, bool)


def is_within(value, least, most):
    return is_integer(value) and least <= value <= most


def is_lettered(value, most):
    """Whether the value is a string of one letter to so many."""
    if not isinstance(value, str) or not 1 <= len(value) <= most:
        return False
    return all([letter in LETTERS for letter in value])


def is_name(value):
    return is_lettered(value, MOST_LETTERS) and value not in NO_NAMES


def check_within(given, least, most):
    if not is_within(given, least, most):
        raise InvalidNumber(given)


def check_sign(given):
    if not is_lettered(given, 1):
        raise InvalidSign(given)


def check_name(given):
    if not is_name(given):
        raise InvalidName(given)


def check_word(given):
    if not is_lettered(given, MOST_SIGNS):
        raise InvalidWord(given)
