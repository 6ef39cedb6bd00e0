import random
import unittest

from tests.drawn import answer_of, draw_book, draw_fitting
from tests.expecting import NO_NUMBERS, NO_STRINGS, Expecting
from tests.plans import build, text_of
from wovenplaces.books import Book
from wovenplaces.errors import InvalidNumber, InvalidRounds, InvalidText
from wovenplaces.expressions import Name
from wovenplaces.rounds import Round, Told

UNLETTERED = ["A", "aB", "a b", " ", "a\n", "\n", "1", "a1", "(", "a(b)", "'a'", ".", "a.b", "a" * 50 + "-"]
BOOK = Book.read("base 2\nsigns ab\nhanded x y\nrow s = weave(s, turn(ba, x))\nrow t = lead(y, x)")
BARE = Book.read("base 2\nsigns ab\nhanded\nrow t = lead('a', drop(1, w))\nrow w = weave(t, turn(ba, t))")


def unrolled(head, loop, many):
    return (head + loop * (many // len(loop) + 1))[:many]


def shortest(head, loop):
    """The shortest head and, with it, the shortest loop, by trying all of them."""
    row = unrolled(head, loop, len(head) + 4 * len(loop))
    for front in range(len(head) + 1):
        for many in range(1, len(loop) + 1):
            if unrolled(row[:front], row[front:front + many], len(row)) == row:
                return row[:front], row[front:front + many]
    return None


def some_words(chance):
    letters = chance.choice(("a", "ab", "ab", "abz"))
    loop = "".join(chance.choice(letters) for _ in range(chance.randint(1, 5))) * chance.choice((1, 1, 2, 3))
    head = "".join(chance.choice(letters) for _ in range(chance.randint(0, 4)))
    if chance.random() < 0.6:
        head += (loop * 3)[chance.randint(1, 2 * len(loop)):2 * len(loop)]
    return head, loop


class Examples(Expecting):
    def test_rounds_of_the_document(self):
        row = Round("abab", "ab")
        self.assertEqual(
            [row.head, row.loop, row[10 ** 30], row.first(5), str(Round("bb", "aba")),
             Round("a", "ba") == Round("", "ab"),
             repr(Round("", "bb"))],
            ["", "ab", "a", "ababa", "bb(aba)", True, "Round((b))"])

    def test_told_rows_of_the_document(self):
        book = Book.read("base 2\nsigns ab\nhanded x\nrow s = weave(s, turn(ba, x))")
        told = Told(book, "s", {"x": Round("a", "ab")})
        self.assertEqual([told.first(8), told.sign(0), told.sign(10 ** 30)], [".bbbbabb", None, "a"])

    def test_classes_and_members_stand_in_their_file(self):
        for made, members in ((Round, ("head", "loop", "first", "__getitem__", "__eq__", "__str__", "__repr__")),
                              (Told, ("sign", "first"))):
            self.assertEqual(made.__module__, "wovenplaces.rounds")
            for member in members:
                self.assertIn(member, vars(made))


class Rounds(Expecting):
    def test_shortest_forms(self):
        for head, loop, wanted in [
                ("", "a", ("", "a")), ("", "aa", ("", "a")), ("a", "a", ("", "a")), ("aaa", "aa", ("", "a")),
                ("b", "a", ("b", "a")), ("ba", "a", ("b", "a")), ("", "abab", ("", "ab")), ("a", "ba", ("", "ab")),
                ("b", "aba", ("b", "aba")), ("ab", "cab", ("", "abc")), ("xab", "cab", ("x", "abc")),
                ("abc", "bc", ("a", "bc")),
                ("", "abaab", ("", "abaab")), ("", "aab", ("", "aab")), ("aab", "aab", ("", "aab")),
                ("zb", "abab", ("z", "ba")), ("abcabca", "bca", ("", "abc")), ("", "zy" * 500, ("", "zy")),
                ("zyx" * 300, "zyx" * 20, ("", "zyx")), ("q" + "ab" * 99, "abababab", ("q", "ab")),
                ("", "aabaab", ("", "aab"))]:
            for row in (Round(head, loop), Round(loop=loop, head=head)):
                self.assertEqual((row.head, row.loop), wanted)
                self.assertEqual(str(row), f"{wanted[0]}({wanted[1]})")
                self.assertEqual(repr(row), f"Round({wanted[0]}({wanted[1]}))")

    def test_drawn_rounds(self):
        chance = random.Random(3)
        for _ in range(800):
            head, loop = some_words(chance)
            row, wanted = Round(head, loop), unrolled(head, loop, 80)
            self.assertEqual((row.head, row.loop), shortest(head, loop), (head, loop))
            self.assertEqual("".join(row[at] for at in range(80)), wanted)
            for many in (0, 1, 2, 7, 80):
                self.assertEqual(row.first(many), wanted[:many])
            for place in (10 ** 20, 10 ** 39 + 3, 10 ** 40 - 1):
                self.assertEqual(row[place], loop[(place - len(head)) % len(loop)])
            self.assertIs(bool(row), True)

    def test_equality(self):
        chance = random.Random(4)
        rows = [some_words(chance) for _ in range(90)]
        for one in rows:
            for other in rows:
                same = unrolled(*one, 120) == unrolled(*other, 120)
                self.assertEqual((Round(*one) == Round(*other), Round(*one) != Round(*other)), (same, not same))
        row = Round("a", "b")
        for other in ["a(b)", ("a", "b"), None, True, 0, "", [], {}, object(), Name("a"), BOOK, Round]:
            self.assertTrue(row != other and other != row and not row == other and not other == row)

    def test_values_of_the_right_kinds(self):
        row = Round("b", "aa")
        for value in (row.head, row.loop, row[0], row[9], row.first(0), row.first(3), str(row), repr(row)):
            self.assertIs(type(value), str)
        self.assertEqual(row.first(many=4), "baaa")

    def test_long_strings(self):
        row = Round("a" * 19998 + "b", "a" * 19998 + "b")
        self.assertEqual((row.head, row.loop), ("", "a" * 19998 + "b"))
        self.assertEqual((row[19998], row[2 * 19999 - 1], row[10 ** 39]), ("b", "b", "a"))
        self.assertEqual(Round("ab" * 9999, "ab" * 9999), Round("", "ab"))
        self.assertEqual(len(row.first(50000)), 50000)

    def test_wrong_head_and_loop(self):
        for wrong in [*NO_STRINGS, *UNLETTERED, Round("", "a")]:
            self.given(InvalidText, wrong, Round, wrong, "a")
            self.given(InvalidText, wrong, Round, loop="a", head=wrong)
            self.given(InvalidText, wrong, Round, "a", wrong)
            self.given(InvalidText, wrong, Round, "", loop=wrong)
            for loop in (None, "", "A", ["b"]):
                self.given(InvalidText, wrong, Round, wrong, loop)
        self.given(InvalidText, "", Round, "", "")
        self.given(InvalidText, "", Round, "abc", "")

    def test_wrong_numbers(self):
        row = Round("ab", "a")
        for wrong in [*NO_NUMBERS, -1, -2, -10 ** 39, slice(0, 3), slice(None)]:
            self.given(InvalidNumber, wrong, row.first, wrong)
            self.given(InvalidNumber, wrong, row.__getitem__, wrong)
            with self.assertRaises(InvalidNumber) as caught:
                row[wrong]
            self.assertIs(caught.exception.given, wrong)


class Tolds(Expecting):
    def test_drawn_rows(self):
        chance = random.Random(11)
        for _ in range(250):
            drawn = draw_book(chance)
            plan = draw_fitting(chance, drawn)
            words = {name: (self.some_signs(chance, drawn, 0), self.some_signs(chance, drawn,
                                                                               1)) for name in drawn.handed}
            rounds = {name: Round(*words[name]) for name in reversed(drawn.handed)}
            told = Told(drawn.made(), build(plan), rounds)
            wanted = [self.sign_at(drawn, plan, words, place) for place in range(60)]
            self.assertEqual([told.sign(place) for place in range(60)], wanted)
            for many in (0, 1, 60):
                self.assertEqual(told.first(many), "".join(sign or "." for sign in wanted[:many]))
            far = chance.randrange(10 ** 39, 10 ** 40)
            named = Told(given=rounds, row=text_of(plan), book=drawn.made())
            self.assertEqual([told.sign(far), named.sign(place=far)], [self.sign_at(drawn, plan, words, far)] * 2)
            self.assertEqual(named.first(many=20), told.first(20))

    def some_signs(self, chance, drawn, least):
        return "".join(chance.choice(drawn.signs) for _ in range(chance.randint(least, 5)))

    def sign_at(self, drawn, plan, words, place):
        answer = answer_of(drawn, plan, place)
        if not isinstance(answer, tuple):
            return answer
        head, loop = words[answer[0]]
        sign = head[answer[1]] if answer[1] < len(head) else loop[(answer[1] - len(head)) % len(loop)]
        return answer[2][drawn.signs.index(sign)]

    def test_books_without_handed_names(self):
        told = Told(BARE, "t", {})
        self.assertEqual([told.first(16), told.sign(7), told.first(0), bool(told)], ["abbabaabbaababba", "b", "", True])
        for wrong in ({"x": Round("", "a")}, {"t": Round("", "a")}, {None: None}, None, (), [], ""):
            self.given(InvalidRounds, wrong, Told, BARE, "t", wrong)

    def test_the_dict_may_change_later(self):
        rounds = {"x": Round("", "a"), "y": Round("", "b")}
        told = Told(BOOK, "lead(y, x)", rounds)
        self.assertEqual(list(rounds), ["x", "y"])
        rounds["y"] = Round("", "a")
        del rounds["x"]
        self.assertEqual(told.first(4), "baaa")
        rounds.clear()
        self.assertEqual(told.sign(0), "b")

    def test_wrong_dicts(self):
        a, b, c = Round("", "a"), Round("b", "ab"), Round("", "c")
        for wrong in [None, True, False, 0, 1, "", "xy", (), ("x", "y"), [], ["x", "y"], set(), {"x", "y"}, a, object(),
                      [("x", a), ("y", b)], (("x", a), ("y", b)), {}, {"x": a}, {"y": a}, {"x": a, "z": b},
                      {"x": a, "y": b, "z": a}, {"x": a, "y": b, "s": a}, {"x": a, "s": b}, {"x": a, None: b},
                      {"x": a, "X": b}, {"x": a, "y ": b}, {0: a, 1: b}, {"x": a, True: b}, {"x": a, ("y",): b},
                      {"x": a, "y": None}, {"x": "a", "y": "b"}, {"x": a, "y": "(b)"}, {"x": a, "y": ("", "b")},
                      {"x": a, "y": c}, {"x": c, "y": b}, {"x": a, "y": Round("c", "b")},
                      {"x": Round("a", "bca"), "y": b},
                      {"x": a, "y": Round("abz", "ab")}, {"x": a, "y": BOOK}, {"x": a, "y": Round},
                      {"x": a, "y": ["b"]},
                      {"x": a, "y": Told(BARE, "t", {})}]:
            self.given(InvalidRounds, wrong, Told, BOOK, "s", wrong)
            self.given(InvalidRounds, wrong, Told, given=wrong, row="s", book=BOOK)
        Told(BOOK, "s", {"y": a, "x": b})

    def test_wrong_numbers(self):
        told = Told(BOOK, "s", {"x": Round("", "a"), "y": Round("", "b")})
        for wrong in [*NO_NUMBERS, -1, -2, -10 ** 39]:
            self.given(InvalidNumber, wrong, told.sign, wrong)
            self.given(InvalidNumber, wrong, told.sign, place=wrong)
            self.given(InvalidNumber, wrong, told.first, wrong)
            self.given(InvalidNumber, wrong, told.first, many=wrong)

    def test_two_told_rows_are_not_equal(self):
        rounds = {"x": Round("", "a"), "y": Round("", "b")}
        one, other = Told(BOOK, "s", rounds), Told(BOOK, "s", rounds)
        self.assertTrue(one != other and not one == other and one == one and one != None)  # noqa: E711


if __name__ == "__main__":
    unittest.main()
