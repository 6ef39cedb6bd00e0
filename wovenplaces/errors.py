"""The errors of the package: wrong values, wrong states, and questions without an answer."""


class WrongValue(ValueError):
    """A value that was passed is not what is asked for."""


class InvalidNumber(WrongValue):
    """It is no integer, or none within the bounds."""

    def __init__(self, given):
        self.given = given


class InvalidName(WrongValue):
    """It is no name of a row."""

    def __init__(self, given):
        self.given = given


class InvalidSign(WrongValue):
    """It is no sign."""

    def __init__(self, given):
        self.given = given


class InvalidWord(WrongValue):
    """It is no word of signs."""

    def __init__(self, given):
        self.given = given


class InvalidText(WrongValue):
    """It is not the text of what is to be read."""

    def __init__(self, given):
        self.given = given


class InvalidExpression(WrongValue):
    """It is no expression, or does not fit the book."""

    def __init__(self, given):
        self.given = given


class InvalidWish(WrongValue):
    """It is no wish of the book."""

    def __init__(self, given):
        self.given = given


class InvalidRounds(WrongValue):
    """It does not give each handed name a round of signs of the book."""

    def __init__(self, given):
        self.given = given


class NotABook(WrongValue):
    """It is no book."""

    def __init__(self, given):
        self.given = given


class NotPlaces(WrongValue):
    """It is no set of places."""

    def __init__(self, given):
        self.given = given


class InvalidHanded(WrongValue):
    """The handed names are no tuple of names, or the one with this index is wrong."""

    def __init__(self, index):
        self.index = index


class InvalidRows(WrongValue):
    """The rows are no tuple of rows, or the one with this index is wrong."""

    def __init__(self, index):
        self.index = index


class InvalidExchanges(WrongValue):
    """The exchanges are no tuple of exchanges, or the one with this index is wrong."""

    def __init__(self, index):
        self.index = index


class InvalidWishes(WrongValue):
    """The wishes are no tuple of wishes, or the one with this index is wrong."""

    def __init__(self, index):
        self.index = index


class WrongState(LookupError):
    """What is asked for is not there."""


class UnknownName(WrongState):
    """No such name is in the book."""

    def __init__(self, given):
        self.given = given


class NothingToUndo(WrongState):
    """No change is left that could be taken back."""


class NoAnswer(ArithmeticError):
    """The values are of the right kind, but nothing can be made of them."""


class OpenRing(NoAnswer):
    """The row with this name comes back to itself by open uses."""

    def __init__(self, name):
        self.name = name


class PartRing(NoAnswer):
    """The row with this name comes back to itself by uses of which one is under a part."""

    def __init__(self, name):
        self.name = name


class TooManyParts(NoAnswer):
    """A way meets so many knots that are a part."""

    def __init__(self, many):
        self.many = many


class NotKept(NoAnswer):
    """The row does not keep the handed name."""

    def __init__(self, given):
        self.given = given


class Broken(NoAnswer):
    """The wish with this index does not hold."""

    def __init__(self, index, shown):
        self.index = index
        self.shown = shown
