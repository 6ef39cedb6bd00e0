import random
import unittest

from tests.drawn import some_books
from tests.expecting import NO_STRINGS, Expecting
from wovenplaces.books import Book
from wovenplaces.errors import InvalidText
from wovenplaces.expressions import Name

TEXT = "base 2\nsigns ab\nhanded x y\nrow t = lead('a', drop(1, w))\nrow w = weave(t, turn(ba, t))\nrow s = weave(s, x)"
BARE = "base 3\nsigns c\nhanded\nrow r = 'c'"
CHARACTERS = "\n" + "".join(chr(code) for code in range(32, 127))


class ReadBook(Expecting):
    def wrong(self, text):
        self.given(InvalidText, text, Book.read, text)

    def read_or_wrong(self, text):
        """Whatever is read has just the text that was given."""
        try:
            book = Book.read(text)
        except Exception as error:
            self.assertIs(type(error), InvalidText)
            self.assertIs(error.given, text)
            return False
        self.assertEqual(str(book), text)
        return True

    def test_texts_of_books(self):
        for drawn in some_books(300, seed=2):
            book, made = Book.read(drawn.text()), drawn.made()
            self.assertTrue(book == made)
            self.assertEqual((book.base, book.signs), (made.base, made.signs))
            self.assertEqual((book.handed, book.names), (made.handed, made.names))
            self.assertEqual([str(book.row(name)) for name in book.names], [str(made.row(name)) for name in made.names])
            self.assertEqual(str(book), drawn.text())
        for text in (TEXT, BARE):
            self.assertEqual(str(Book.read(text)), text)
            self.assertEqual(str(Book.read(text=text)), text)

    def test_what_is_read_tells_values_of_the_right_kinds(self):
        book = Book.read(BARE)
        self.assertEqual((book.base, book.signs, book.handed, book.names, book.rows), (3, "c", (), ("r",), book.rows))
        self.assertIs(type(book.rows), tuple)
        self.assertIs(type(book.rows[0]), tuple)
        self.assertIs(type(book.base), int)

    def test_values_that_are_no_strings(self):
        for wrong in [*NO_STRINGS, TEXT.encode(), [TEXT], (TEXT,), TEXT.split("\n"), Book.read(TEXT), Name("x")]:
            self.wrong(wrong)
            self.given(InvalidText, wrong, Book.read, text=wrong)

    def test_lines_left_out_twice_or_in_another_place(self):
        for text in (TEXT, BARE):
            lines = text.split("\n")
            for at in range(len(lines)):
                left_out = "\n".join(lines[:at] + lines[at + 1:])
                # Without the row s the text is one of a book.
                self.assertEqual(self.read_or_wrong(left_out), text == TEXT and at == 5)
                self.wrong("\n".join(lines[:at + 1] + lines[at:]))
                for to in range(len(lines)):
                    moved = lines[:at] + lines[at + 1:]
                    moved.insert(to, lines[at])
                    self.assertEqual(self.read_or_wrong("\n".join(moved)), at == to or min(at, to) > 2)

    def test_a_character_more_or_less(self):
        for text in (TEXT, BARE):
            for at in range(len(text) + 1):
                self.read_or_wrong(text[:at] + text[at + 1:])
                for character in " \n":
                    self.wrong(text[:at] + character + text[at:])
                for character in CHARACTERS:
                    self.read_or_wrong(text[:at] + character + text[at:])
                    self.read_or_wrong(text[:at] + character + text[at + 1:])

    def test_characters_that_are_told(self):
        """At these places just these characters make another book."""
        for at, wanted in [(0, "b"), (4, " "), (5, "2"), (6, "\n"), (7, "s"), (12, " "), (15, "\n"), (22, " "),
                           (24, " "), (26, "\n"), (27, "r"), (30, " "), (32, " "), (33, "="), (34, " ")]:
            good = [one for one in CHARACTERS if self.read_or_wrong(TEXT[:at] + one + TEXT[at + 1:])]
            self.assertEqual("".join(good), wanted, at)

    def test_bases(self):
        for base in (2, 3, 4):
            self.assertEqual(Book.read(f"base {base}\nsigns a\nhanded\nrow r = 'a'").base, base)
        for base in ("0", "1", "5", "6", "9", "02", "2.0", "+2", "-2", "22", "two", "", " 2", "2 ", "2\n", "0x2", "10"):
            self.wrong(f"base {base}\nsigns a\nhanded\nrow r = 'a'")
        for base in (3, 4):
            self.wrong(TEXT.replace("base 2", f"base {base}"))

    def test_signs_and_handed_names(self):
        for signs in ("", "A", "aa", "abcde", "a b", "1", "a,b", " a", "a ", "'a'", "aba"):
            self.wrong(f"base 2\nsigns {signs}\nhanded\nrow r = 'a'")
        for handed in ("handed ", "handed  x", "handed x ", "handed x  y", "handed x x", "handed x y z v", "handed X",
                       "handed x,y", "handed x, y", "handed abcdefghi", "handed r", "handed weave", "handed turn x",
                       "Handed x", "handedx", "handed 'x'", "hand x", "x", "", " handed", "handed x y x"):
            self.wrong(f"base 2\nsigns ab\n{handed}\nrow r = 'a'")
        for handed in ("handed", "handed x", "handed x y z", "handed handed", "handed abcdefgh a"):
            self.assertEqual(str(Book.read(f"base 2\nsigns ab\n{handed}\nrow r = 'a'")).split("\n")[2], handed)

    def test_rows(self):
        head = "base 2\nsigns ab\nhanded x"
        for row in ("row r", "row r =", "row r = ", "row r='a'", "row r ='a'", "row r= 'a'", "row  r = 'a'",
                    "row r = 'a' ",
                    "r = 'a'", "Row r = 'a'", "row x = 'a'", "row weave = 'a'", "row R = 'a'", "row = 'a'",
                    "row  = 'a'",
                    "row r = 'c'", "row r = v", "row r = drop(01, x)", "row r = drop(0, x)", "row r = drop(10, x)",
                    "row r = part(0, 02, x)", "row r = r", "row r = drop(1, r)", "row r = weave(part(0, 2, r), x)",
                    "row r = part(0, 2, part(0, 2, part(0, 2, part(0, 2, x))))", "row r = turn(a, x)", "rowr = x",
                    "row r = weave(x, x, x)", "row r = part(0, 3, x)",
                    "row r = drop(9, weave(weave(weave(x, x), x), drop(1, x)))",
                    "row r = x = x", "row r = row r = x", "row r s = x", "row r == x", "row abcdefghi = x", "row r : x",
                    "row row r = x", "row r = 'a'\nrow r = 'b'", "row r = x\n", "\nrow r = x", "row r = x\n\nrow s = x",
                    "row r = x\nrow s = r\nrow t = r\nrow u = r\nrow v = r", "row r = weave(x,x)",
                    "row r = weave( x, x)", "row r = (x)", "row r = 'a", "row r = \"a\"", "row r = 1", "row r = None",
                    "row r = x # first", "row r = s\nrow s = r", "row r = turn(cc, x)"):
            self.wrong(f"{head}\n{row}")
        for row in ("row r = x", "row row = x", "row base = 'a'", "row r = x\nrow s = r\nrow t = r\nrow u = r",
                    "row abcdefgh = part(0, 2, part(1, 2, part(0, 2, x)))", "row r = weave(r, weave(r, weave(r, x)))"):
            self.assertEqual(str(Book.read(f"{head}\n{row}")), f"{head}\n{row}")

    def test_other_wrong_strings(self):
        for text in ["", "\n", " ", "base 2", "base 2\n", "base 2\nsigns ab", "base 2\nsigns ab\nhanded x",
                     "base 2\nsigns ab\nhanded x\n", "\n\n\n", "base\nsigns\nhanded\nrow", TEXT + "\n", "\n" + TEXT,
                     TEXT + " ",
                     " " + TEXT, TEXT.replace("\n", " "), TEXT.replace("\n", "\n\n"), TEXT.upper(), TEXT * 2,
                     TEXT + "\n" + TEXT, TEXT[::-1], "x", "weave(x, y)", "Book of 3 rows", "a" * 19999, "\n" * 19999,
                     "base 2\nsigns ab\nhanded x\nrow r = " + "drop(1, " * 2000 + "x" + ")" * 2000]:
            self.wrong(text)

    def test_drawn_texts_with_some_changes(self):
        chance = random.Random(21)
        books = [drawn.text() for drawn in some_books(40, seed=3)]
        read = 0
        for _ in range(3000):
            text = chance.choice(books)
            for _ in range(chance.randint(1, 3)):
                at, other = chance.randrange(len(text)), chance.choice(books)
                piece = other[chance.randrange(len(other)):][:chance.choice((0, 1, 1, 2, 8))]
                text = text[:at] + piece + text[at + chance.choice((0, 1, len(piece))):]
            read += self.read_or_wrong(text)
        self.assertGreater(read, 50)


if __name__ == "__main__":
    unittest.main()
