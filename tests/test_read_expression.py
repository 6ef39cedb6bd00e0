import random
import unittest

from tests.expecting import NO_STRINGS, Expecting
from tests.plans import CLASSES, build, deep_plan, is_text, some_plans, text_of, wide_plan
from wovenplaces.errors import InvalidText
from wovenplaces.expressions import Expression, Name, Weave, read_expression

KINDS = ("weave", "part", "drop", "lead", "turn")
SHORT = ["x", "'a'", "weave(x, y)", "weave(x, 'a', y, z)", "part(1, 2, x)", "part(3, 4, 'b')", "drop(1, w)",
         "drop(9, 'a')", "lead('a', x)", "turn(ba, x)", "turn(part, x)", "abcdefgh",
         "lead('a', drop(1, w))", "weave(part(1, 2, x), part(0, 2, turn(ba, x)))"]
WRONG = """
weave|part|drop|lead|turn|weave()|lead()|turn()|drop()|part()|weave(x)|weave(x, y, z, u, v)|lead(x)|lead(x, y, z)
drop(x)|drop(1)|drop(1, x, y)|drop(x, 1)|drop(x, y)|drop(1, 2)|drop(1, 1, x)|drop(0, x)|drop(10, x)|drop(11, x)
drop(01, x)|drop(1 , x)|drop(+1, x)|drop(-1, x)|drop(1.0, x)|drop(1_0, x)|drop('a', x)|drop(one, x)|drop(drop(1, x), x)
part(1, x)|part(1, 2)|part(2, x)|part(0, 2, x, y)|part(0, x, 2)|part(x, 0, 2)|part(2, 2, x)|part(3, 3, x)|part(3, 2, x)
part(4, 4, x)|part(4, 5, x)|part(0, 5, x)|part(0, 1, x)|part(0, 0, x)|part(-1, 2, x)|part(00, 2, x)|part(0, 02, x)
part(0, 10, x)|part(a, 2, x)|part(0, 'a', x)|part(0, 2, 3)|turn(x)|turn(ba)|turn(, x)|turn(abcde, x)|turn(weave, x)
turn('a', x)|turn(1, x)|turn(ba, x, y)|turn(bA, x)|turn(b a, x)|turn(turn(ba, x), x)|turn('ba', x)|turn(ba, ba, x)
lead(1, x)|lead(x, 1)|lead(x, weave)|lead(part, x)|weave(x, turn)|turn(ba, drop)|weave(drop, lead)|drop(1, turn)
 x|x |x  |\\nx|x\\n|x\\n\\n|(x)|((x))|x()|x(y)|foo(x, y)|sign(a)|name(x)|x, y|'a', 'b'|x y|x'a'|'a'x|'a''b'|xdrop(1, x)
'ab'|''|'a|a'|'|'''|''''|"a"|'A'|'1'|' '|'a' | 'a'|`a`|('a')|'\\n'|'a'()|X|xY|x1|1|0|12|abcdefghi|aaaaaaaaa|x_y|x-y
weave (x, y)|weave(x,y)|weave(x,  y)|weave( x, y)|weave(x, y )|weave(x , y)|weave(x, y,)|weave(x, y, )|weave(, x, y)
weave(x, , y)|weave(x; y)|weave(x y)|weave[x, y]|weave{x, y}|Weave(x, y)|WEAVE(x, y)|weave(x, y|weave(x, y))|weave x, y
weave(x, y)(x, y)|weave(x, y) |weave(x, y)\\n|weave(x, y)x|weave(x, y), x|weave(x,\\ny)|weave(x,\\n y)|weave((x, y)
weave(lead(x), y)|weave(lead(x, y, z), y)|weave(drop(0, x), y)|weave(x, weave(y))|lead(x, lead(y, lead(z)))
(|)|,|, |()|(,)|)(|,x|, x|x,|x, |x)|(x|weave(|weave(x|weave(x, |drop(1, x|drop(1, x))|'a'(x)|#|@|~|!|=|E|None|True|()x
"""


class Reading(Expecting):
    def same(self, one, other):
        self.assertIsInstance(one, Expression)
        self.assertIs(type(one), type(other))
        self.assertEqual((str(one), one.kind, one.told, one.names, one.knots, repr(one)),
                         (str(other), other.kind, other.told, other.names, other.knots, repr(other)))
        self.assertTrue(one == other and not one != other)
        self.assertEqual(len(one.inner), len(other.inner))
        for inside, beside in zip(one.inner, other.inner):
            self.same(inside, beside)

    def test_there_and_back(self):
        for plan in some_plans(400):
            self.same(read_expression(text_of(plan)), build(plan))

    def test_deep_and_wide_ones(self):
        for plan in [wide_plan(), deep_plan(KINDS, 12), *[deep_plan((kind,), 12) for kind in KINDS]]:
            self.same(read_expression(text_of(plan)), build(plan))
            self.same(read_expression(text=text_of(plan)), build(plan))

    def test_each_valid_number_and_word(self):
        for many in range(1, 10):
            self.assertEqual(read_expression(f"drop({many}, x)").told, (many,))
        for base in (2, 3, 4):
            for at in range(base):
                self.assertEqual(read_expression(f"part({at}, {base}, x)").told, (at, base))
        for word in ("a", "ab", "zzz", "abcd", "part", "drop", "lead", "turn"):
            self.assertEqual(read_expression(f"turn({word}, x)").told, (word,))
        for sign in "abcdefghijklmnopqrstuvwxyz":
            self.assertEqual(read_expression(f"'{sign}'").told, (sign,))

    def test_kinds(self):
        for text in SHORT:
            made = read_expression(text)
            self.assertIs(type(made), CLASSES[made.kind])
            self.assertEqual(str(made), text)

    def test_words_with_a_letter_more_or_less_are_names(self):
        for word in KINDS:
            for near in (word[1:], word[:-1], word + "s", "x" + word):
                self.assertEqual(read_expression(near).names, (near,))
                self.assertEqual(read_expression(f"lead({near}, x)").inner[0].told, (near,))
                wrong = f"{near}(x, y)"
                self.given(InvalidText, wrong, read_expression, wrong)
            self.given(InvalidText, word, read_expression, word)


class NoTexts(Expecting):
    def test_told_ones(self):
        for line in WRONG.strip("\n").split("\n"):
            for wrong in line.split("|"):
                wrong = wrong.replace("\\n", "\n")
                with self.subTest(wrong):
                    self.given(InvalidText, wrong, read_expression, wrong)

    def test_inside_of_others(self):
        for line in WRONG.strip("\n").split("\n"):
            for inside in line.split("|"):
                wrong = f"weave(x, drop(2, {inside}))".replace("\\n", "\n")
                if not is_text(wrong):
                    self.given(InvalidText, wrong, read_expression, wrong)

    def test_empty(self):
        self.given(InvalidText, "", read_expression, "")
        for blank in (" ", "\n", "  ", "\n\n"):
            self.given(InvalidText, blank, read_expression, blank)

    def test_no_strings(self):
        for wrong in [*NO_STRINGS, Name("x"), Weave(Name("x"), Name("y")), (Name("x"),)]:
            self.given(InvalidText, wrong, read_expression, wrong)
            self.given(InvalidText, wrong, read_expression, text=wrong)

    def test_long_ones(self):
        for wrong in ("lead(" * 150, "drop(1, " * 150, "(" * 150, ")" * 150, "(" * 150 + "x" + ")" * 150, "x" * 19999,
                      "'" * 19999, "1" * 19999, "drop(" + "1" * 19000 + ", x)", "drop(0" + "1" * 5000 + ", x)",
                      "part(0, " + "2" * 19000 + ", x)", "turn(" + "a" * 19000 + ", x)", "x, " * 6000, "\n" * 19999,
                      "drop(1, " * 100 + "x" + ")" * 99, "drop(1, " * 100 + "x" + ")" * 101, "weave(" + "x, " * 6000):
            self.given(InvalidText, wrong, read_expression, wrong)

    def check(self, text):
        """The text is read if it is one, and given back if it is none."""
        if is_text(text):
            self.assertEqual(str(read_expression(text)), text)
            return 1
        self.given(InvalidText, text, read_expression, text)
        return 0

    def test_a_character_less(self):
        for text in SHORT:
            for at in range(len(text)):
                self.check(text[:at] + text[at + 1:])

    def test_a_character_more_or_another_one(self):
        read = 0
        for text in SHORT:
            for at in range(len(text) + 1):
                for new in "abtw'(), 0123459\nAZ_`{;\"":
                    read += self.check(text[:at] + new + text[at:])
                    read += self.check(text[:at] + new + text[at + 1:])
        self.assertGreater(read, 100)

    def test_two_characters_exchanged(self):
        for text in SHORT:
            for at in range(len(text) - 1):
                self.check(text[:at] + text[at + 1] + text[at] + text[at + 2:])

    def test_pieces_in_any_order(self):
        chance = random.Random(7)
        pieces = ["x", "'a'", "weave(", "part(1, 2, ", "drop(3, ", "lead(", "turn(ba, ", ")", ")", ", ", ", ", "part"]
        read = 0
        for _ in range(20000):
            read += self.check("".join(chance.choice(pieces) for _ in range(chance.randint(1, 7))))
        self.assertGreater(read, 100)

    def test_large_texts_with_one_fault(self):
        chance = random.Random(8)
        for plan in some_plans(150):
            text = text_of(plan)
            for _ in range(20):
                at = chance.randrange(len(text) + 1)
                self.check(text[:at] + chance.choice("ax'(), 09\nA") + text[at + chance.randint(0, 1):])


if __name__ == "__main__":
    unittest.main()
