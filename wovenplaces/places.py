"""Periodic sets of places, kept in their least form."""

from wovenplaces.asking import check_count
from wovenplaces.checks import check_within, is_integer
from wovenplaces.errors import NotPlaces
from wovenplaces.limits import MOST_MEMBER, MOST_STEP
from wovenplaces.masks import common_width, full, least_width, low, positions, tiled


class Places:
    """A set of integers from 0 on that comes again and again from some integer on.

    It is made with the bits of its members below start + width: from the start on, which is a multiple
    of the width, they come again every width.
    """

    def __init__(self, bits, start, width):
        pattern = bits >> start
        self.width = least_width(pattern, width)
        self.cycle = low(pattern, self.width)
        # Where the set is not what its period would have it; the start is behind the last such place.
        self.strays = low(bits, start) ^ tiled(self.cycle, self.width, start)

    @property
    def start(self):
        return self.strays.bit_length()

    @property
    def period(self):
        return self.width

    @property
    def below(self):
        return tuple(positions(bits_below(self, self.start)))

    @property
    def rests(self):
        start = self.start
        return tuple(positions(bits_below(self, start + self.width) >> start))

    @property
    def least(self):
        bits = bits_below(self, self.start + self.width)
        return (bits & -bits).bit_length() - 1 if bits else None

    @property
    def is_finite(self):
        return self.cycle == 0

    def members(self, first):
        """Its members from this number on, ascending, without end if there are always more."""
        check_count(first)
        for member in self.below:
            if member >= first:
                yield member
        start = self.start
        rests = self.rests
        turn = start + max(0, first - start) // self.width * self.width
        while rests:
            for rest in rests:
                if turn + rest >= first:
                    yield turn + rest
            turn = turn + self.width

    def __or__(self, other):
        check_places(other)
        start, width = frame(self, other)
        many = start + width
        return Places(bits_below(self, many) | bits_below(other, many), start, width)

    def __and__(self, other):
        check_places(other)
        start, width = frame(self, other)
        many = start + width
        return Places(bits_below(self, many) & bits_below(other, many), start, width)

    def __sub__(self, other):
        check_places(other)
        start, width = frame(self, other)
        many = start + width
        return Places(bits_below(self, many) & opposite(bits_below(other, many), many), start, width)

    def __xor__(self, other):
        check_places(other)
        start, width = frame(self, other)
        many = start + width
        return Places(bits_below(self, many) ^ bits_below(other, many), start, width)

    def __invert__(self):
        start, width = frame(self, self)
        many = start + width
        return Places(opposite(bits_below(self, many), many), start, width)

    def __contains__(self, n):
        if not is_integer(n) or n < 0:
            return False
        bits = self.cycle >> n % self.width
        if n < self.strays.bit_length():
            bits = bits ^ self.strays >> n
        return bits & 1 == 1

    def __eq__(self, other):
        if not isinstance(other, Places):
            return False
        return self.width == other.width and self.cycle == other.cycle and self.strays == other.strays

    def __bool__(self):
        return bool(self.cycle | self.strays)

    def __repr__(self):
        return f"Places({len(self.below)} below {self.start}, {len(self.rests)} of {self.period})"


def bits_below(places, many):
    """The bits of the members below a number that is not below the start."""
    return tiled(places.cycle, places.width, many) ^ places.strays


def opposite(bits, many):
    return bits ^ full(many)


def frame(one, other):
    """A start and a width that serve for both sets, the start being a multiple of the width."""
    width = common_width(one.width, other.width)
    least = max(one.start, other.start)
    return least + -least % width, width


def check_places(given):
    if not isinstance(given, Places):
        raise NotPlaces(given)


def gathered(pairs):
    """The Places that has each of these: (step, first) for step * m + first for all m, for first alone if step is 0.

    The steps are powers of one number, so the greatest is a multiple of each.
    """
    width = max([1, *[step for step, first in pairs]])
    least = max([0, *[first + 1 for step, first in pairs]])
    start = least + -least % width
    bits = 0
    for step, first in pairs:
        bits = bits | (tiled(1, step, start + width - first) if step > 0 else 1) << first
    return Places(bits, start, width)


def numbers(*members):
    """The set of these integers."""
    for member in members:
        check_within(member, 0, MOST_MEMBER)
    return gathered([(0, member) for member in members])


def steps(first, step):
    """The set of first, first + step, first + 2 * step, .."""
    check_within(first, 0, MOST_MEMBER)
    check_within(step, 1, MOST_STEP)
    return gathered([(step, first)])
