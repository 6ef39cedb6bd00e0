import random
import unittest

from tests.drawn import draw_book, draw_fitting, draw_plan
from tests.expecting import NO_STRINGS, Expecting, Touchy
from tests.plans import text_of
from tests.wishing import draw_wish
from wovenplaces.books import Book
from wovenplaces.comparing import alike
from wovenplaces.console import Console
from wovenplaces.desks import Desk
from wovenplaces.errors import InvalidText, NoAnswer, NotABook, WrongState, WrongValue
from wovenplaces.expressions import Name, read_expression
from wovenplaces.shares import silent, times
from wovenplaces.walks import look

TEXT = "base 2\nsigns ab\nhanded x in\nrow s = weave(s, x)\nrow p = weave(part(1, 2, x), part(0, 2, x))\nrow look = in"
RIGHT = ["row s = x", "row p = weave(part(1, 2, x), part(0, 2, x))", "undo", "wish full drop(1, s)", "wish all x in p",
         "wish once in in weave(x, in)", "wish alike p = weave(part(1, 2, x), part(0, 2, x))", "look 0 s", "look 10 'a'",
         "alike s = x", "alike 'a' = lead('a', 'a')", "silent s", "silent weave(x, s)", "times 3 x in s",
         "times 0 in in in", "book"]


class Examples(Expecting):
    def test_examples_of_the_document(self):
        console = Console(Book.read("base 2\nsigns ab\nhanded x\nrow s = weave(s, x)"))
        self.assertEqual(
            [console.say("look 6 turn(ba, s)"), console.say("alike part(1, 2, s) = x"), console.say("times 3 x in s"),
             console.say("wish full s"), console.say("row s = x"), console.say("wish full s")],
            ["x 1 ba", "yes", "endless", "Broken", "ok", "ok"])
        self.given(InvalidText, "look 06 s", console.say, "look 06 s")

    def test_class_stands_in_its_file(self):
        self.assertEqual(Console.__module__, "wovenplaces.console")
        self.assertIn("say", vars(Console))


class Lines(Expecting):
    def setUp(self):
        self.console = Console(Book.read(TEXT))

    def says(self, line, wanted):
        found = self.console.say(line)
        self.assertEqual((found, type(found)), (wanted, str), line)

    def test_no_books(self):
        for wrong in (None, True, 0, "", TEXT, (), Touchy(), Book, Desk(Book.read(TEXT)), self.console):
            self.given(NotABook, wrong, Console, wrong)
            self.given(NotABook, wrong, Console, book=wrong)

    def test_looks(self):
        for line, wanted in [("look 0 s", "silent"), ("look 1 s", "x 0 ab"), ("look 6 turn(bb, s)", "b"), ("look 3 'a'", "a"),
                             ("look 6 turn(ba, s)", "x 1 ba"), ("look 0 look", "in 0 ab"), ("look 12 in", "in 12 ab"),
                             (f"look {10 ** 39} x", f"x {10 ** 39} ab"), (f"look {10 ** 40 - 1} s", f"x {5 * 10 ** 39 - 1} ab")]:
            self.says(line, wanted)

    def test_other_questions(self):
        for line, wanted in [
                ("alike s = s", "yes"), ("alike s = x", "0"), ("alike lead(x, x) = x", "1"), ("alike look = in", "yes"),
                ("alike weave(x, weave(x, weave(x, s))) = weave(x, weave(x, weave(x, x)))", "7"), ("silent s", "0"),
                ("silent weave(x, s)", "1"), ("silent x", "none"), ("silent drop(1, s)", "none"), ("times 3 x in s", "endless"),
                ("times 3 x in lead(x, weave(x, x))", "2"), ("times 3 in in s", "0"), (f"times {10 ** 39} x in p", "1"),
                ("book", TEXT)]:
            self.says(line, wanted)

    def test_deeds(self):
        for line, wanted in [
                ("undo", "NothingToUndo"), ("wish all x in p", "ok"), ("wish once x in p", "ok"), ("wish full s", "Broken"),
                ("row p = lead(x, x)", "Broken"), ("row p = drop(1, x)", "Broken"), ("row p = x", "ok"),
                ("wish alike p = x", "ok"), ("row p = turn(ba, x)", "Broken"), ("undo", "ok"), ("row p = turn(ba, x)", "ok"),
                ("look 4 p", "x 4 ba"), ("undo", "ok"), ("undo", "ok"), ("look 4 p", "x 5 ab"), ("row p = drop(1, x)", "Broken"),
                ("undo", "ok"), ("row p = drop(1, x)", "Broken"), ("undo", "ok"), ("row p = drop(1, x)", "ok"), ("undo", "ok"),
                ("undo", "NothingToUndo"), ("wish full weave(p, in)", "ok"), ("wish once in in s", "ok"),
                ("wish all in in in", "ok"), ("book", TEXT)]:
            self.says(line, wanted)

    def test_names_of_errors(self):
        for line, wanted in [
                ("row v = x", "UnknownName"), ("row x = s", "UnknownName"), ("row s = v", "UnknownName"),
                ("row s = weave(x, x, x)", "InvalidExpression"), ("row s = 'c'", "InvalidExpression"),
                ("row s = weave(weave(x, weave(x, x)), weave(x, x))", "InvalidExpression"),
                ("row s = drop(1, s)", "OpenRing"), ("row s = weave(part(0, 2, s), x)", "PartRing"),
                ("row s = part(0, 2, part(0, 2, part(0, 2, p)))", "TooManyParts"), ("look 3 v", "UnknownName"),
                ("look 3 weave(x, v)", "UnknownName"), ("look 3 'c'", "InvalidExpression"),
                ("alike v = x", "UnknownName"), ("alike x = 'd'", "InvalidExpression"), ("alike 'd' = v", "InvalidExpression"),
                ("silent v", "UnknownName"), ("silent part(0, 3, x)", "InvalidExpression"), ("times 0 s in s", "UnknownName"),
                ("times 0 v in s", "UnknownName"), ("times 0 x in v", "UnknownName"), ("times 0 v in 'c'", "InvalidExpression"),
                ("wish full v", "InvalidWish"), ("wish full 'c'", "InvalidWish"), ("wish all v in s", "InvalidWish"),
                ("wish once s in s", "InvalidWish"), ("wish alike s = turn(a, s)", "InvalidWish"),
                ("wish all x in s", "ok"), ("wish all in in s", "Broken"), ("wish alike x = in", "Broken")]:
            before = self.console.say("book")
            self.says(line, wanted)
            self.assertEqual(self.console.say("book"), before)
        self.says("undo", "ok")
        self.says("undo", "NothingToUndo")

    def test_lines_are_passed_by_name_too(self):
        self.assertEqual(self.console.say(line="look 1 s"), "x 0 ab")


class NoLines(Expecting):
    def setUp(self):
        self.console = Console(Book.read(TEXT))

    def refused(self, wrong):
        self.given(InvalidText, wrong, self.console.say, wrong)

    def tearDown(self):
        self.assertEqual(self.console.say("book"), TEXT)
        self.assertEqual(self.console.say("undo"), "NothingToUndo")

    def test_right_lines(self):
        for line in RIGHT:
            self.assertIsInstance(Console(Book.read(TEXT)).say(line), str)

    def test_no_strings(self):
        for wrong in [*NO_STRINGS, ["undo"], ("undo",), b"undo", b"book", Name("book"), [line.split(" ") for line in RIGHT]]:
            self.given(InvalidText, wrong, self.console.say, wrong)
            self.given(InvalidText, wrong, self.console.say, line=wrong)

    def test_one_word_otherwise(self):
        for line in RIGHT:
            words = line.split(" ")
            others = []
            for at in range(len(words)):
                others.append(words[:at] + words[at + 1:])
                others.append(words[:at] + words[at:at + 1] + words[at:])
                for other in ("", " ", "row", "=", "in", "wish", "full", "look", "0", "-1", "x", "+", "'a", "X", "undo"):
                    others.append(words[:at] + [other] + words[at + 1:])
                for other in range(at):
                    others.append([*words[:other], words[at], *words[other + 1:at], words[other], *words[at + 1:]])
            for other in others:
                self.either(" ".join(other))

    def either(self, line):
        """A line that is none is refused; whether it is one is told by a second account."""
        if is_line(line):
            self.assertIsInstance(Console(Book.read(TEXT)).say(line), str)
        else:
            self.refused(line)

    def test_spaces_newlines_and_signs(self):
        for line in RIGHT:
            for wrong in (line + " ", " " + line, line + "\n", "\n" + line, line + "\n" + line, line.upper(), line + "  ",
                          line.capitalize(), line[:-1] + line[-1].upper(), line + ";", line + ".", line + "'", line + ")",
                          line + ", x", "> " + line, line + " = x = x", line + " in", "# " + line):
                self.either(wrong)
            for at in range(len(line)):
                self.either(line[:at] + " " + line[at:])
                self.either(line[:at] + "\n" + line[at:])
                self.either(line[:at] + line[at + 1:])
                for sign in "x0=('":
                    self.either(line[:at] + sign + line[at:])

    def test_numbers(self):
        for number in ("00", "01", "-0", "-1", "+1", "1.0", "1e3", "", " ", "x", "0x1", "1_0", "one", "1 1", "()", "'1'", "0" * 50,
                       "0" + "1" * 50):
            self.refused(f"look {number} s")
            self.refused(f"times {number} x in s")
        for number in ("0", "9", "10", "100", "1" * 40):
            self.assertTrue(self.console.say(f"look {number} p").startswith("x "))
            self.assertEqual(self.console.say(f"times {number} x in p"), "1")

    def test_lines_that_are_near(self):
        for wrong in ("", " ", "row", "row s", "row s =", "row s = ", "row s=x", "row s =x", "row = x", "row  = x", "row s x",
                      "row S = x", "row s = x y", "row 's' = x", "row weave = x", "row s = weave", "row abcdefghi = x",
                      "undo 1", "undo undo", "undos", "wish", "wish full", "wish full ", "wish all x p", "wish all in p",
                      "wish all x in", "wish all x in ", "wish all x, in in p", "wish once x of p", "wish s", "wish silent s",
                      "wish alike s", "wish alike s = ", "wish alike s x", "wish full s = x", "alike", "alike s", "alike s = ",
                      "alike = s", "alike  = s", "alike s == s", "alike s = s = s", "look", "look 3", "look s", "look s 3",
                      "look 3 4", "silent", "silent ", "silent 3 s", "times 3 x s", "times x in s", "times 3 in s",
                      "times 3 x of s", "times 3 x in", "book s", "book ", "books", "lift 0", "Look 3 s", "keeps x in s",
                      "times 3 weave in s", "wish all 'a' in s", "times 3 x in in in s", "look 3 drop(0, s)"):
            self.refused(wrong)
        for line in ("times 3 in in s", "wish once look in p", "alike in = in"):
            self.assertIsInstance(Console(Book.read(TEXT)).say(line), str)

    def test_long_lines(self):
        self.refused("look 3 " + "drop(1, " * 2000 + "x")
        self.refused("x" * 19999)
        self.refused(" " * 19999)
        self.refused("row s = " * 2000)
        self.assertEqual(self.console.say("look 3 " + "drop(9, " * 39 + "x" + ")" * 39), f"x {3 + 9 * 39} ab")


def is_text(text):
    try:
        read_expression(text)
    except InvalidText:
        return False
    return True


def is_name(text):
    return is_text(text) and text.isalpha()


def is_number(text):
    return text.isdigit() and str(int(text)) == text


def is_line(line):
    """Whether this is one of the lines, by its words; texts are those with spaces behind commas alone."""
    words = line.replace(", ", ",_").split(" ")
    texts = [word.replace(",_", ", ") for word in words]
    if words in (["undo"], ["book"]):
        return True
    if words[0] == "row":
        return len(words) == 4 and is_name(words[1]) and words[2] == "=" and is_text(texts[3])
    if words[0] == "silent" or words[:2] == ["wish", "full"]:
        return len(words) == (2 if words[0] == "silent" else 3) and is_text(texts[-1])
    if words[:2] in (["wish", "all"], ["wish", "once"]):
        return len(words) == 5 and is_name(words[2]) and words[3] == "in" and is_text(texts[4])
    if words[:2] == ["wish", "alike"]:
        return len(words) == 5 and is_text(texts[2]) and words[3] == "=" and is_text(texts[4])
    if words[0] == "alike":
        return len(words) == 4 and is_text(texts[1]) and words[2] == "=" and is_text(texts[3])
    if words[0] == "look":
        return len(words) == 3 and is_number(words[1]) and is_text(texts[2])
    return (words[0] == "times" and len(words) == 5 and is_number(words[1]) and is_name(words[2]) and words[3] == "in"
            and is_text(texts[4]))


class Beside(Expecting):
    """A console beside a desk and the functions."""

    def answer(self, desk, kind, values):
        try:
            return self.told(desk, kind, values)
        except (WrongValue, WrongState, NoAnswer) as caught:
            return type(caught).__name__

    def told(self, desk, kind, values):
        book = desk.book
        if kind == "look":
            found = look(book, values[1], values[0])
            return "silent" if found is None else found if isinstance(found, str) else "{} {} {}".format(*found)
        if kind == "alike":
            found = alike(book, *values)
            return "yes" if found is None else str(found)
        if kind == "silent":
            found = silent(book, *values)
            return "none" if found is None else str(found)
        if kind == "times":
            found = times(book, values[2], values[1], values[0])
            return "endless" if found is None else str(found)
        if kind == "row":
            desk.put_row(values[0], read_expression(values[1]))
        elif kind == "wish":
            desk.wish(values)
        elif kind == "undo":
            desk.undo()
        return str(book) if kind == "book" else "ok"

    def line(self, kind, values):
        if kind == "wish":
            return {"alike": "wish alike {1} = {2}", "full": "wish full {1}", "all": "wish all {2} in {1}",
                    "once": "wish once {2} in {1}"}[values[0]].format(*values)
        return {"look": "look {} {}", "alike": "alike {} = {}", "silent": "silent {}", "times": "times {} {} in {}",
                "row": "row {} = {}", "undo": "undo", "book": "book"}[kind].format(*values)

    def some_values(self, chance, drawn, kind):
        text = text_of(draw_fitting(chance, drawn, chance.choice((1, 3, 8))))
        if chance.random() < 0.1:
            text = chance.choice(("v", "'z'", "weave(v, 'z')", "turn(abcd, x)", "weave(x, x, x, x)", "part(0, 4, x)"))
        other = text_of(draw_fitting(chance, drawn, 1))
        place = chance.choice((0, 1, 7, chance.randrange(10 ** 40)))
        word = chance.choice(drawn.handed + drawn.names)
        if kind == "wish":
            return draw_wish(chance, drawn) if chance.random() < 0.9 else ("all", text, word)
        if kind == "row" and chance.random() < 0.8:
            text = text_of(draw_plan(chance, drawn.base, drawn.signs, drawn.handed + drawn.names, 7, 7, 1))
        return {"look": (place, text), "alike": (text, other), "silent": (text,), "times": (place, word, text),
                "row": (word, text), "undo": (), "book": ()}[kind]

    def test_drawn_lines(self):
        chance = random.Random(1)
        found = {}
        for _ in range(120):
            drawn = draw_book(chance)
            console, desk = Console(drawn.made()), Desk(drawn.made())
            for _ in range(25):
                kind = chance.choice(("look", "alike", "silent", "times", "row", "row", "wish", "wish", "undo", "book"))
                values = self.some_values(chance, drawn, kind)
                wanted = self.answer(desk, kind, values)
                self.assertEqual(console.say(self.line(kind, values)), wanted, self.line(kind, values))
                found[wanted] = found.get(wanted, 0) + 1
                self.assertEqual(console.say("book"), str(desk.book))
            for _ in range(desk.changes):
                self.assertEqual(console.say("undo"), "ok")
            self.assertEqual(console.say("undo"), "NothingToUndo")
            self.assertEqual(console.say("book"), drawn.text())
        for word in ("ok", "yes", "none", "endless", "silent", "0", "Broken", "InvalidWish", "UnknownName", "NothingToUndo",
                     "InvalidExpression", "OpenRing", "PartRing"):
            self.assertGreater(found.get(word, 0), 3, word)

    def test_two_consoles_of_one_book(self):
        book = Book.read(TEXT)
        one, other = Console(book), Console(book)
        self.assertEqual(one.say("row s = x"), "ok")
        self.assertEqual((one.say("look 2 s"), other.say("look 2 s"), str(book)), ("x 2 ab", "x 0 ab", TEXT))


if __name__ == "__main__":
    unittest.main()
