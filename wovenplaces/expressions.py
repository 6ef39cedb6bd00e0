"""Expressions, the programs that make rows, and the reading of their texts.

Each class tells all members again, as the interface wants them in the body of the class itself.
"""

from wovenplaces.checks import LEAST_BASE, check_name, check_sign, check_within, check_word
from wovenplaces.errors import InvalidExpression, InvalidText, WrongValue
from wovenplaces.exchanging import exchange
from wovenplaces.facts import Facts
from wovenplaces.limits import MOST_BASE, MOST_DROP
from wovenplaces.reading import read_text


class Expression:
    """What the seven classes below have in common; only they are made."""

    @property
    def kind(self):
        return self.facts.word

    @property
    def inner(self):
        return self.facts.parts

    @property
    def told(self):
        return self.facts.marks

    @property
    def names(self):
        return self.facts.labels

    @property
    def knots(self):
        return self.facts.size

    def __str__(self):
        return str(self.facts.text)
    def __repr__(self):
        return f"Expression of {self.facts.size} knots"
    def __eq__(self, other):
        return isinstance(other, Expression) and self.facts.text == other.facts.text
    def __add__(self, other):
        return Lead(self, other)
    def __rshift__(self, other):
        return Drop(other, self)

    def exchanged(self, name, other):
        return exchanged_in(self, name, other)


class Sign(Expression):
    """'a': the row with this sign at each place."""

    def __init__(self, sign):
        check_sign(sign)
        self.facts = Facts("sign", (sign,), ())

    @property
    def kind(self):
        return self.facts.word

    @property
    def inner(self):
        return self.facts.parts

    @property
    def told(self):
        return self.facts.marks

    @property
    def names(self):
        return self.facts.labels

    @property
    def knots(self):
        return self.facts.size

    def __str__(self):
        return str(self.facts.text)
    def __repr__(self):
        return f"Expression of {self.facts.size} knots"
    def __eq__(self, other):
        return isinstance(other, Expression) and self.facts.text == other.facts.text
    def __add__(self, other):
        return Lead(self, other)
    def __rshift__(self, other):
        return Drop(other, self)

    def exchanged(self, name, other):
        return exchanged_in(self, name, other)


class Name(Expression):
    """x: the row of this name."""

    def __init__(self, name):
        check_name(name)
        self.facts = Facts("name", (name,), ())

    @property
    def kind(self):
        return self.facts.word

    @property
    def inner(self):
        return self.facts.parts

    @property
    def told(self):
        return self.facts.marks

    @property
    def names(self):
        return self.facts.labels

    @property
    def knots(self):
        return self.facts.size

    def __str__(self):
        return str(self.facts.text)
    def __repr__(self):
        return f"Expression of {self.facts.size} knots"
    def __eq__(self, other):
        return isinstance(other, Expression) and self.facts.text == other.facts.text
    def __add__(self, other):
        return Lead(self, other)
    def __rshift__(self, other):
        return Drop(other, self)

    def exchanged(self, name, other):
        return exchanged_in(self, name, other)


class Weave(Expression):
    """weave(E, F, ..): a place of each inner expression by turns."""

    def __init__(self, *inner):
        check_within(len(inner), LEAST_BASE, MOST_BASE)
        check_expressions(inner)
        self.facts = Facts("weave", (), inner)

    @property
    def kind(self):
        return self.facts.word

    @property
    def inner(self):
        return self.facts.parts

    @property
    def told(self):
        return self.facts.marks

    @property
    def names(self):
        return self.facts.labels

    @property
    def knots(self):
        return self.facts.size

    def __str__(self):
        return str(self.facts.text)
    def __repr__(self):
        return f"Expression of {self.facts.size} knots"
    def __eq__(self, other):
        return isinstance(other, Expression) and self.facts.text == other.facts.text
    def __add__(self, other):
        return Lead(self, other)
    def __rshift__(self, other):
        return Drop(other, self)

    def exchanged(self, name, other):
        return exchanged_in(self, name, other)


class Part(Expression):
    """part(j, K, E): each K-th place of E, from the place j on."""

    def __init__(self, at, base, inner):
        check_within(at, 0, MOST_BASE - 1)
        check_within(base, max(LEAST_BASE, at + 1), MOST_BASE)
        check_expressions((inner,))
        self.facts = Facts("part", (at, base), (inner,))

    @property
    def kind(self):
        return self.facts.word

    @property
    def inner(self):
        return self.facts.parts

    @property
    def told(self):
        return self.facts.marks

    @property
    def names(self):
        return self.facts.labels

    @property
    def knots(self):
        return self.facts.size

    def __str__(self):
        return str(self.facts.text)
    def __repr__(self):
        return f"Expression of {self.facts.size} knots"
    def __eq__(self, other):
        return isinstance(other, Expression) and self.facts.text == other.facts.text
    def __add__(self, other):
        return Lead(self, other)
    def __rshift__(self, other):
        return Drop(other, self)

    def exchanged(self, name, other):
        return exchanged_in(self, name, other)


class Drop(Expression):
    """drop(c, E): E without its first c places."""

    def __init__(self, many, inner):
        check_within(many, 1, MOST_DROP)
        check_expressions((inner,))
        self.facts = Facts("drop", (many,), (inner,))

    @property
    def kind(self):
        return self.facts.word

    @property
    def inner(self):
        return self.facts.parts

    @property
    def told(self):
        return self.facts.marks

    @property
    def names(self):
        return self.facts.labels

    @property
    def knots(self):
        return self.facts.size

    def __str__(self):
        return str(self.facts.text)
    def __repr__(self):
        return f"Expression of {self.facts.size} knots"
    def __eq__(self, other):
        return isinstance(other, Expression) and self.facts.text == other.facts.text
    def __add__(self, other):
        return Lead(self, other)
    def __rshift__(self, other):
        return Drop(other, self)

    def exchanged(self, name, other):
        return exchanged_in(self, name, other)


class Lead(Expression):
    """lead(E, F): the first place of E, and F behind it."""

    def __init__(self, first, rest):
        check_expressions((first, rest))
        self.facts = Facts("lead", (), (first, rest))

    @property
    def kind(self):
        return self.facts.word

    @property
    def inner(self):
        return self.facts.parts

    @property
    def told(self):
        return self.facts.marks

    @property
    def names(self):
        return self.facts.labels

    @property
    def knots(self):
        return self.facts.size

    def __str__(self):
        return str(self.facts.text)
    def __repr__(self):
        return f"Expression of {self.facts.size} knots"
    def __eq__(self, other):
        return isinstance(other, Expression) and self.facts.text == other.facts.text
    def __add__(self, other):
        return Lead(self, other)
    def __rshift__(self, other):
        return Drop(other, self)

    def exchanged(self, name, other):
        return exchanged_in(self, name, other)


class Turn(Expression):
    """turn(w, E): E with its signs exchanged as w tells."""

    def __init__(self, word, inner):
        check_word(word)
        check_expressions((inner,))
        self.facts = Facts("turn", (word,), (inner,))

    @property
    def kind(self):
        return self.facts.word

    @property
    def inner(self):
        return self.facts.parts

    @property
    def told(self):
        return self.facts.marks

    @property
    def names(self):
        return self.facts.labels

    @property
    def knots(self):
        return self.facts.size

    def __str__(self):
        return str(self.facts.text)
    def __repr__(self):
        return f"Expression of {self.facts.size} knots"
    def __eq__(self, other):
        return isinstance(other, Expression) and self.facts.text == other.facts.text
    def __add__(self, other):
        return Lead(self, other)
    def __rshift__(self, other):
        return Drop(other, self)

    def exchanged(self, name, other):
        return exchanged_in(self, name, other)


def check_expressions(values):
    for value in values:
        if not isinstance(value, Expression):
            raise InvalidExpression(value)


def make(kind, told, inner):
    """The expression of this kind; `told` and `inner` have as many members as its class takes."""
    if kind == "sign":
        return Sign(told[0])
    if kind == "name":
        return Name(told[0])
    if kind == "weave":
        return Weave(*inner)
    if kind == "part":
        return Part(told[0], told[1], inner[0])
    if kind == "drop":
        return Drop(told[0], inner[0])
    if kind == "lead":
        return Lead(inner[0], inner[1])
    return Turn(told[0], inner[0])


def exchanged_in(expression, name, other):
    check_name(name)
    check_expressions((other,))
    return exchange(expression, name, other, make)


def read_expression(text):
    """The expression with this text; InvalidText for anything that is no such text."""
    if not isinstance(text, str):
        raise InvalidText(text)
    try:
        return read_text(text, make)
    except WrongValue:
        raise InvalidText(text) from None
