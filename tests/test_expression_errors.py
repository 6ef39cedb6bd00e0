import unittest

from tests.expecting import NO_EXPRESSIONS, NO_NUMBERS, NO_STRINGS, Expecting
from wovenplaces.errors import InvalidExpression, InvalidName, InvalidNumber, InvalidSign, InvalidWord
from wovenplaces.expressions import Drop, Lead, Name, Part, Sign, Turn, Weave

X = Name("x")
NO_NAMES = ("weave", "part", "drop", "lead", "turn")
# Strings that hold something else than letters; each is short enough for a name and for a word.
UNLETTERED = ["A", "Z", "aB", "Ab", "0", "7", "a1", "1a", " ", "a ", " a", "a b", "\n", "a\n", "\na", "a\nb", "_", "a_",
              "-", "a-b", "`", "{", "@", "[", "'", "'a'", "a'", "(", ")", ",", "a,b", ".", "~", "!", "", "a.b"]


class Signs(Expecting):
    def test_valid(self):
        for sign in "abcdefghijklmnopqrstuvwxyz":
            self.assertEqual(Sign(sign).told, (sign,))

    def test_invalid(self):
        for wrong in [*NO_STRINGS, *UNLETTERED, "ab", "aa", "abcd", "part", "a" * 19999, X, Sign("a")]:
            self.given(InvalidSign, wrong, Sign, wrong)
            self.given(InvalidSign, wrong, Sign, sign=wrong)


class Names(Expecting):
    def test_valid(self):
        for name in ["a", "z", "az", "abcdefgh", "zzzzzzzz", "a" * 8, "qrstuvwx"]:
            self.assertEqual((Name(name).told, Name(name).names), ((name,), (name,)))

    def test_five_words_and_their_neighbours(self):
        for word in NO_NAMES:
            self.given(InvalidName, word, Name, word)
            for near in [word[1:], word[:-1], "x" + word, word + "s", word + word[:2], word[::-1], word[:2] + word[1:]]:
                self.assertEqual(str(Name(near)), near)
        for other in ("sign", "name", "row", "base", "signs", "handed"):
            self.assertEqual(str(Name(other)), other)

    def test_invalid(self):
        for wrong in [*NO_STRINGS, *UNLETTERED, *NO_NAMES, "abcdefghi", "a" * 9, "a" * 16, "a" * 19999, X, Sign("a")]:
            self.given(InvalidName, wrong, Name, wrong)
            self.given(InvalidName, wrong, Name, name=wrong)


class Weaves(Expecting):
    def test_numbers_of_inner_ones(self):
        for many in (0, 1, 5, 6, 9, 40):
            self.number(many, InvalidNumber, Weave, *[X] * many)
        for many in (2, 3, 4):
            self.assertEqual(len(Weave(*[X] * many).inner), many)

    def test_number_comes_first_of_all(self):
        for many in (1, 5, 6):
            self.number(many, InvalidNumber, Weave, *[None] * many)
            self.number(many, InvalidNumber, Weave, *[X] * (many - 1), "x")

    def test_first_that_is_no_expression(self):
        for wrong in NO_EXPRESSIONS:
            for many in (2, 3, 4):
                for at in range(many):
                    inner = [X] * many
                    inner[at] = wrong
                    self.given(InvalidExpression, wrong, Weave, *inner)
        for first in range(4):
            inner = [X] * first + [["no", at] for at in range(first, 4)]
            self.given(InvalidExpression, inner[first], Weave, *inner)

    def test_a_tuple_is_no_inner_expression(self):
        self.number(1, InvalidNumber, Weave, (X, X))
        pair = (X, X)
        self.given(InvalidExpression, pair, Weave, pair, X)


class Parts(Expecting):
    def test_all_numbers_near_the_bounds(self):
        for at in range(-2, 7):
            for base in range(-2, 8):
                with self.subTest(f"{at} of {base}"):
                    if not 0 <= at <= 3:
                        self.number(at, InvalidNumber, Part, at, base, X)
                    elif not 2 <= base <= 4 or base <= at:
                        self.number(base, InvalidNumber, Part, at, base, X)
                    else:
                        self.assertEqual(Part(at, base, X).told, (at, base))

    def test_large_numbers(self):
        for wrong in (10 ** 39, -10 ** 39, 2 ** 64, 1000):
            self.given(InvalidNumber, wrong, Part, wrong, 4, X)
            self.given(InvalidNumber, wrong, Part, 0, wrong, X)

    def test_no_integers(self):
        for wrong in [*NO_NUMBERS, X]:
            self.given(InvalidNumber, wrong, Part, wrong, 2, X)
            self.given(InvalidNumber, wrong, Part, base=2, inner=X, at=wrong)
            for at in range(4):
                self.given(InvalidNumber, wrong, Part, at, wrong, X)
            self.given(InvalidNumber, wrong, Part, inner=X, base=wrong, at=0)

    def test_true_and_false_are_not_taken_for_one_and_nought(self):
        self.given(InvalidNumber, True, Part, True, 2, X)
        self.given(InvalidNumber, False, Part, False, 2, X)

    def test_no_expressions(self):
        for wrong in NO_EXPRESSIONS:
            self.given(InvalidExpression, wrong, Part, 0, 2, wrong)
            self.given(InvalidExpression, wrong, Part, inner=wrong, base=4, at=3)

    def test_order(self):
        ats, bases, inner = ["at"], ["base"], ["inner"]
        self.given(InvalidNumber, ats, Part, ats, bases, inner)
        self.given(InvalidNumber, ats, Part, ats, 2, inner)
        self.given(InvalidNumber, bases, Part, 0, bases, inner)
        self.number(4, InvalidNumber, Part, 4, 9, "x")
        self.number(9, InvalidNumber, Part, 3, 9, "x")
        self.number(3, InvalidNumber, Part, 3, 3, "x")
        self.number(-1, InvalidNumber, Part, inner="x", base=-2, at=-1)


class Drops(Expecting):
    def test_bounds(self):
        for many in range(1, 10):
            self.assertEqual(Drop(many, X).told, (many,))
        for wrong in (0, -1, 10, 11, 99, -9, 10 ** 39):
            self.given(InvalidNumber, wrong, Drop, wrong, X)
            self.given(InvalidNumber, wrong, Drop, inner=X, many=wrong)

    def test_no_integers(self):
        for wrong in [*NO_NUMBERS, X]:
            self.given(InvalidNumber, wrong, Drop, wrong, X)

    def test_no_expressions(self):
        for wrong in NO_EXPRESSIONS:
            self.given(InvalidExpression, wrong, Drop, 1, wrong)
            self.given(InvalidExpression, wrong, Drop, inner=wrong, many=9)

    def test_order(self):
        many, inner = ["many"], ["inner"]
        self.given(InvalidNumber, many, Drop, many, inner)
        self.given(InvalidNumber, many, Drop, inner=inner, many=many)
        self.number(10, InvalidNumber, Drop, 10, "x")


class Leads(Expecting):
    def test_no_expressions(self):
        for wrong in NO_EXPRESSIONS:
            self.given(InvalidExpression, wrong, Lead, wrong, X)
            self.given(InvalidExpression, wrong, Lead, X, wrong)
            self.given(InvalidExpression, wrong, Lead, rest=X, first=wrong)
            self.given(InvalidExpression, wrong, Lead, rest=wrong, first=X)

    def test_order(self):
        first, rest = ["first"], ["rest"]
        self.given(InvalidExpression, first, Lead, first, rest)
        self.given(InvalidExpression, first, Lead, rest=rest, first=first)


class Turns(Expecting):
    def test_words(self):
        for word in ["a", "z", "ab", "aa", "zyx", "abcd", "aaaa", "zzzz", "part", "drop", "lead", "turn"]:
            self.assertEqual((Turn(word, X).told, str(Turn(word, X))), ((word,), f"turn({word}, x)"))

    def test_invalid_words(self):
        for wrong in [*NO_STRINGS, *UNLETTERED, "abcde", "aaaaa", "weave", "a" * 19999, X, Sign("a")]:
            self.given(InvalidWord, wrong, Turn, wrong, X)
            self.given(InvalidWord, wrong, Turn, inner=X, word=wrong)

    def test_no_expressions(self):
        for wrong in NO_EXPRESSIONS:
            self.given(InvalidExpression, wrong, Turn, "ab", wrong)
            self.given(InvalidExpression, wrong, Turn, inner=wrong, word="a")

    def test_order(self):
        word, inner = ["word"], ["inner"]
        self.given(InvalidWord, word, Turn, word, inner)
        self.given(InvalidWord, word, Turn, inner=inner, word=word)
        self.given(InvalidWord, "abcde", Turn, "abcde", "x")


MADE = (Sign("a"), X, Weave(X, X), Part(0, 2, X), Drop(1, X), Lead(X, X), Turn("a", X))


class Operators(Expecting):
    def test_plus(self):
        for made in MADE:
            text = str(made)
            for wrong in NO_EXPRESSIONS:
                self.given(InvalidExpression, wrong, lambda: made + wrong)
            self.assertEqual(str(made), text)

    def test_shift(self):
        for made in MADE:
            text = str(made)
            for wrong in [*NO_NUMBERS, 0, -1, 10, 10 ** 39, X]:
                self.given(InvalidNumber, wrong, lambda: made >> wrong)
            self.assertEqual(str(made), text)


class Exchanging(Expecting):
    def test_no_names(self):
        for made in MADE:
            for wrong in [*NO_STRINGS, *UNLETTERED, *NO_NAMES, "abcdefghi", X]:
                self.given(InvalidName, wrong, made.exchanged, wrong, X)
                self.given(InvalidName, wrong, made.exchanged, other=X, name=wrong)

    def test_no_expressions(self):
        for made in MADE:
            for wrong in NO_EXPRESSIONS:
                for name in ("x", "absent"):
                    self.given(InvalidExpression, wrong, made.exchanged, name, wrong)
                    self.given(InvalidExpression, wrong, made.exchanged, other=wrong, name=name)

    def test_order(self):
        name, other = ["name"], ["other"]
        for made in MADE:
            self.given(InvalidName, name, made.exchanged, name, other)
            self.given(InvalidName, "weave", made.exchanged, other=other, name="weave")


if __name__ == "__main__":
    unittest.main()
