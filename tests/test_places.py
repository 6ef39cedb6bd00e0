import itertools
import random
import unittest
from math import lcm

from tests.expecting import NO_NUMBERS, Expecting, Touchy
from wovenplaces.books import Book
from wovenplaces.errors import InvalidNumber, NotPlaces
from wovenplaces.expressions import Name
from wovenplaces.places import Places, numbers, steps
from wovenplaces.shares import shown

BOOK = Book.read("base 3\nsigns ab\nhanded x\nrow s = lead(x, part(1, 3, part(0, 3, drop(4, x))))")
NO_PLACES = [None, True, False, 0, 1, -1, 10 ** 39, "", "x", b"", (), (1, 3), [], [1], {}, {1}, set(), frozenset((1,)),
             range(4), Places, numbers, object(), Touchy(), BOOK, Name("x")]
NEVER_MEMBERS = [True, False, None, "", "1", "0", b"1", -1, -2, -10 ** 39, (), (1,), [], [1], {}, {1}, object(), Touchy(),
                 Name("x"), BOOK, int, range(3)]


class Told:
    """A second account of a set: whether a number is in it, and a start and a period that serve for it."""

    def __init__(self, has, start, period):
        self.has, self.start, self.period = has, start, period

    def least_form(self):
        """The least start and period, by a search through all starts and periods."""
        bits = [self.has(n) for n in range(self.start + 3 * self.period)]
        found = []
        for period in range(1, self.period + 1):
            start = len(bits) - period
            while start > 0 and bits[start - 1] == bits[start - 1 + period]:
                start -= 1
            if start <= self.start:
                found.append((period, start))
        return min(start for _, start in found), min(period for period, _ in found)


def told_numbers(*members):
    return Told(lambda n: n in members, max(members, default=-1) + 1, 1)


def told_steps(first, step):
    return Told(lambda n: n >= first and (n - first) % step == 0, first, step)


def both(one, other, has):
    return Told(has, max(one.start, other.start), lcm(one.period, other.period))


# Pairs of what the program does and what the second account does.
BINARY = {
    "|": (lambda a, b: a | b, lambda a, b: both(a, b, lambda n: a.has(n) or b.has(n))),
    "&": (lambda a, b: a & b, lambda a, b: both(a, b, lambda n: a.has(n) and b.has(n))),
    "-": (lambda a, b: a - b, lambda a, b: both(a, b, lambda n: a.has(n) and not b.has(n))),
    "^": (lambda a, b: a ^ b, lambda a, b: both(a, b, lambda n: a.has(n) != b.has(n))),
}


def opposite(a):
    return Told(lambda n: not a.has(n), a.start, a.period)


def some_set(chance, most_step=12, most=25):
    if chance.random() < 0.4:
        members = [chance.randrange(most) for _ in range(chance.choice((0, 1, 2, 5)))]
        return numbers(*members), told_numbers(*members)
    first, step = chance.randrange(most), chance.randint(1, most_step)
    return steps(first, step), told_steps(first, step)


def some_made_set(chance, levels, most_step=12, most=25):
    """A set of operators, nested so deep, with its second account."""
    if levels == 0:
        return some_set(chance, most_step, most)
    one = some_made_set(chance, levels - 1, most_step, most)
    if chance.random() < 0.2:
        return ~one[0], opposite(one[1])
    other = some_made_set(chance, chance.randrange(levels), most_step, most)
    if chance.random() < 0.5:
        one, other = other, one
    doing, telling = BINARY[chance.choice("|&-^")]
    return doing(one[0], other[0]), telling(one[1], other[1])


class Checking(Expecting):
    def same(self, found, told):
        """The set has just the told members and tells of itself what it has to."""
        start, period = told.least_form()
        self.assertEqual((found.start, found.period), (start, period))
        self.same_members(found, told, start, period)

    def same_members(self, found, told, start, period):
        near = range(start + 2 * period + 3)
        self.assertEqual([n in found for n in near], [told.has(n) for n in near])
        self.assertEqual(found.below, tuple(n for n in range(start) if told.has(n)))
        self.assertEqual(found.rests, tuple(n for n in range(period) if told.has(start + n)))
        members = [n for n in range(start + period) if told.has(n)]
        self.assertEqual(found.least, min(members, default=None))
        self.assertIs(found.is_finite, not found.rests)
        self.assertIs(bool(found), bool(members))
        self.assertEqual(repr(found), f"Places({len(found.below)} below {start}, {len(found.rests)} of {period})")
        for far in (10 ** 30, 10 ** 40 - 1, 10 ** 39 + 7):
            self.assertIs(far in found, told.has(far))
        for n in (*found.below, *found.rests, found.start, found.period):
            self.assertIs(type(n), int)


class Examples(Checking):
    def test_examples_of_the_document(self):
        odd = steps(1, 2)
        self.assertEqual(
            [odd.start, odd.period, odd.below, odd.rests, odd.least, odd.is_finite, 10 ** 30 + 1 in odd,
             (odd | steps(0, 2)).period],
            [0, 2, (), (1,), 1, False, True, 1])
        few = numbers(3, 1, 3)
        self.assertEqual(
            [few.start, few.period, few.below, few.rests, (odd - few).least, (odd & few) == few, repr(odd - few),
             bool(few - odd)],
            [4, 1, (1, 3), (), 5, True, "Places(0 below 4, 1 of 2)", False])
        self.assertEqual(
            [2 in ~odd, True in odd, (~odd & steps(0, 4)) == steps(0, 4), (odd ^ steps(0, 3)).least],
            [True, False, True, 0])

    def test_class_functions_and_members_stand_in_their_file(self):
        for one in (Places, numbers, steps):
            self.assertEqual(one.__module__, "wovenplaces.places")
        for member in ("start", "period", "below", "rests", "least", "is_finite", "members", "__or__", "__and__",
                       "__sub__", "__xor__", "__invert__", "__contains__", "__eq__", "__bool__", "__repr__"):
            self.assertIn(member, vars(Places))


class Making(Checking):
    def test_numbers(self):
        chance = random.Random(1)
        for members in [(), (0,), (1,), (0, 1, 2), (2, 1, 0), (5, 5, 5), (7, 0, 7, 3), (1000,), (0, 1000), (999, 1000),
                        *[[chance.randrange(60) for _ in range(chance.randint(0, 9))] for _ in range(40)]]:
            found = numbers(*members)
            self.assertEqual(found.below, tuple(sorted(set(members))))
            self.same(found, told_numbers(*members))
        everything = numbers(*range(1001))
        self.assertEqual((everything.start, everything.period, everything.below), (1001, 1, tuple(range(1001))))

    def test_steps(self):
        for first, step in [*itertools.product(range(0, 30, 3), range(1, 13)), (1000, 1), (1000, 12), (999, 7), (0, 12),
                            (11, 12), (12, 12), (13, 12)]:
            told = told_steps(first, step)
            for found in (steps(first, step), steps(step=step, first=first)):
                self.assertEqual((found.start, found.period), (max(0, first - step + 1), step))
                self.same_members(found, told, max(0, first - step + 1), step)
        for first in (0, 1, 5, 11, 12, 40):
            for step in (1, 2, 5, 12):
                self.same(steps(first, step), told_steps(first, step))

    def test_empty_and_full(self):
        for empty in (numbers(), ~steps(0, 1), steps(3, 1) - steps(3, 1), numbers(4) & numbers(5)):
            self.assertEqual((empty.start, empty.period, empty.below, empty.rests, empty.least, empty.is_finite,
                              bool(empty)), (0, 1, (), (), None, True, False))
            self.assertEqual(repr(empty), "Places(0 below 0, 0 of 1)")
        for full in (steps(0, 1), ~numbers(), steps(0, 2) | steps(1, 2), numbers(0, 1, 2) | steps(3, 1)):
            self.assertEqual((full.start, full.period, full.below, full.rests, full.least, full.is_finite, bool(full)),
                             (0, 1, (), (0,), 0, False, True))

    def test_wrong_numbers(self):
        for wrong in [*NO_NUMBERS, -1, 1001, -10 ** 39, 10 ** 39]:
            self.given(InvalidNumber, wrong, numbers, wrong)
            self.given(InvalidNumber, wrong, numbers, 0, 1000, wrong)
            self.given(InvalidNumber, wrong, numbers, 5, wrong, -3, None)
            self.given(InvalidNumber, wrong, steps, wrong, 3)
            self.given(InvalidNumber, wrong, steps, wrong, 13)
            self.given(InvalidNumber, wrong, steps, step=None, first=wrong)
        for wrong in [*NO_NUMBERS, 0, -1, 13, 1000, -10 ** 39, 10 ** 39]:
            self.given(InvalidNumber, wrong, steps, 1000, wrong)
            self.given(InvalidNumber, wrong, steps, step=wrong, first=0)

    def test_the_first_wrong_value(self):
        self.given(InvalidNumber, -7, numbers, 1, -7, 2000, True)
        self.given(InvalidNumber, True, numbers, 1, True, -7)
        self.given(InvalidNumber, 2000, steps, 2000, 2001)
        self.given(InvalidNumber, 2001, steps, 1000, 2001)


class Members(Checking):
    def test_what_is_never_a_member(self):
        for found in (steps(0, 1), steps(1, 1), numbers(0, 1), numbers(), ~numbers(0, 1), ~steps(1, 2)):
            for value in NEVER_MEMBERS:
                self.assertIs(value in found, False)
                self.assertIs(value in ~found, False)
                self.assertIs(value not in found, True)

    def test_generators(self):
        chance = random.Random(2)
        for _ in range(150):
            found, told = some_made_set(chance, chance.randrange(3), 7)
            for first in (0, 1, found.start, found.start + found.period, chance.randrange(90)):
                wanted = [n for n in range(first, 400) if told.has(n)]
                if found.is_finite:
                    self.assertEqual(list(found.members(first)), wanted)
                    self.assertEqual(list(found.members(first=first)), wanted)
                    continue
                members = found.members(first)
                self.assertEqual([next(members) for _ in wanted], wanted)

    def test_far_beginnings(self):
        for found, first, wanted in [
                (steps(5, 12), 10 ** 39, [n for n in range(10 ** 39, 10 ** 39 + 40) if n % 12 == 5]),
                (steps(1000, 7) | numbers(1), 999, [1000, 1007, 1014]),
                (steps(0, 3) - numbers(0, 3, 9), 0, [6, 12, 15]), (~numbers(7, 8), 6, [6, 9, 10, 11]),
                (~numbers(7, 8), 10 ** 38, [10 ** 38, 10 ** 38 + 1]),
                (steps(2, 4) | steps(1, 6), 10 ** 20, [n for n in range(10 ** 20, 10 ** 20 + 60)
                                                       if n % 4 == 2 or n % 6 == 1])]:
            members = found.members(first)
            self.assertEqual([next(members) for _ in wanted], wanted)
        self.assertEqual(list(numbers(1, 5).members(10 ** 39)), [])
        self.assertEqual(list(numbers().members(0)), [])

    def test_two_at_once_and_again(self):
        found = numbers(2) | steps(5, 3)
        one, other = found.members(0), found.members(6)
        self.assertEqual([next(one), next(other), next(one), next(one), next(other), next(one)], [2, 8, 5, 8, 11, 11])
        self.assertEqual([next(found.members(3)) for _ in range(3)], [5, 5, 5])
        for _ in range(2):
            self.assertEqual(list(numbers(9, 4).members(0)), [4, 9])

    def test_wrong_beginnings(self):
        for wrong in [*NO_NUMBERS, -1, -10 ** 39]:
            for found in (steps(1, 2), numbers(3), numbers()):
                members = found.members(wrong)
                self.given(InvalidNumber, wrong, next, members)
                self.given(InvalidNumber, wrong, list, found.members(first=wrong))


class Operators(Checking):
    def test_one_level(self):
        chance = random.Random(3)
        for _ in range(150):
            one, told = some_set(chance, 8)
            other, told_other = some_set(chance, 8)
            kept = [(each.start, each.period, each.below, each.rests) for each in (one, other)]
            for doing, telling in BINARY.values():
                self.same(doing(one, other), telling(told, told_other))
                self.same(doing(other, one), telling(told_other, told))
                self.same(doing(one, one), telling(told, told))
            self.same(~one, opposite(told))
            self.assertEqual([(each.start, each.period, each.below, each.rests) for each in (one, other)], kept)

    def test_two_and_three_levels(self):
        chance = random.Random(4)
        for _ in range(250):
            found, told = some_made_set(chance, chance.choice((2, 3)), 6)
            self.same(found, told)

    def test_all_steps_at_once(self):
        chance = random.Random(5)
        found, told = steps(0, 1), told_steps(0, 1)
        for step in (5, 7, 8, 9, 11, 12):
            doing, telling = BINARY[chance.choice("|^-")]
            first = chance.randrange(40)
            found, told = doing(found, steps(first, step)), telling(told, told_steps(first, step))
        self.assertEqual(27720 % found.period, 0)
        for n in [*range(500), *[chance.randrange(10 ** 40) for _ in range(500)]]:
            self.assertIs(n in found, told.has(n))
            self.assertIs(n in ~found, not told.has(n))
        self.assertEqual(found.rests, tuple(n for n in range(found.period) if told.has(found.start + n)))

    def test_with_sets_of_rows(self):
        told = both(told_steps(7, 9), told_numbers(0), lambda n: n >= 7 and n % 9 == 7 or n == 0)
        found = shown(BOOK, "s", "x")
        self.same(found, told)
        chance = random.Random(6)
        for _ in range(40):
            other, told_other = some_made_set(chance, 1, 4)
            for doing, telling in BINARY.values():
                self.same(doing(found, other), telling(told, told_other))
                self.same(doing(other, found), telling(told_other, told))

    def test_wrong_operands(self):
        for found in (steps(1, 2), numbers()):
            for doing, _ in BINARY.values():
                for wrong in NO_PLACES:
                    self.given(NotPlaces, wrong, doing, found, wrong)

    def test_large_numbers_of_places(self):
        book = Book.read("base 4\nsigns ab\nhanded x\n"
                         "row s = part(3, 4, part(2, 4, part(1, 4, drop(9, drop(9, drop(9, x))))))")
        # The place n of s is the place 4 * (4 * (4 * n + 3) + 2) + 1 + 27 of x.
        row = "part(0, 4, part(0, 4, part(3, 4, s)))"
        for many in range(8):
            row = f"drop(9, {row})"
            first = 64 * (64 * 9 * (many + 1) + 3) + 84
            found = shown(book, row, "x")
            self.assertEqual((found.start, found.period, found.least), (first - 4095, 4096, first))
            self.assertEqual((found.below, found.rests), ((), (4095,)))
            members = found.members(0)
            self.assertEqual([next(members) for _ in range(3)], [first, first + 4096, first + 8192])
        for step in (7, 11, 9):
            found = found & steps(1, step)
        self.assertEqual((found.period, found.start, found.rests), (4096 * 693, 0, (found.least,)))
        self.assertEqual([found.least % number for number in (7, 11, 9, 4096)], [1, 1, 1, first % 4096])
        self.assertEqual(next(found.members(10 ** 30)) % found.period, found.least % found.period)
        self.assertEqual((~found | found).period, 1)


class Equality(Checking):
    def test_the_same_set_otherwise(self):
        for one, other in [
                (steps(0, 2) | steps(1, 2), steps(0, 1)), (steps(0, 3), steps(0, 6) | steps(3, 6)),
                (~(~steps(4, 5)), steps(4, 5)), (numbers(1, 2) | steps(3, 1), steps(1, 1)),
                (numbers(2, 1, 1), numbers(1, 2)),
                (steps(0, 12) | steps(4, 12) | steps(8, 12), steps(0, 4)), (steps(7, 3) | numbers(1, 4), steps(1, 3)),
                (steps(1, 2) ^ steps(0, 1), steps(0, 2)), (~numbers() - numbers(0), steps(1, 1))]:
            self.assertTrue(one == other and other == one and not one != other and not other != one)
            self.assertEqual((one.start, one.period, repr(one)), (other.start, other.period, repr(other)))

    def test_one_member_exchanged(self):
        chance = random.Random(7)
        for _ in range(200):
            found, _ = some_made_set(chance, chance.randrange(3), 6)
            n = chance.randrange(60)
            other = found ^ numbers(n)
            self.assertTrue(found != other and other != found and not found == other and not other == found)
            self.assertEqual((found ^ other, other ^ numbers(n)), (numbers(n), found))

    def test_by_members(self):
        chance = random.Random(8)
        sets = [some_made_set(chance, 1, 3, 5) for _ in range(60)]
        for one, told in sets:
            for other, told_other in sets:
                same = [told.has(n) for n in range(30)] == [told_other.has(n) for n in range(30)]
                self.assertEqual((one == other, one != other), (same, not same))

    def test_values_of_other_kinds(self):
        for found in (steps(0, 1), numbers(), numbers(1, 3)):
            for other in [value for value in NO_PLACES if not isinstance(value, Touchy)]:
                self.assertTrue(found != other and other != found and not found == other and not other == found)
            self.assertIs(found == Touchy(), False)


if __name__ == "__main__":
    unittest.main()
