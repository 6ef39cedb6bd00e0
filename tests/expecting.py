"""What several tests need: values of every kind, and errors that hold the very value that was passed."""

import unittest


class Touchy:
    """An object that does not let itself be compared, counted, shown or asked whether it is true."""

    def refuse(self, *rest):
        raise AssertionError("the program looked into a value that is none of its own")

    __eq__ = __ne__ = __lt__ = __le__ = __gt__ = __ge__ = refuse
    __bool__ = __len__ = __iter__ = __contains__ = __getitem__ = refuse
    __hash__ = __str__ = __repr__ = __int__ = __index__ = refuse


def nested_list(depth):
    value = []
    for _ in range(depth):
        value = [value]
    return value


NO_NUMBERS = [True, False, None, "", "1", "a", b"", b"1", (), (1,), [], [1], {}, {1: 1}, {1}, object(), Touchy(),
              int, len, nested_list(9)]
NO_STRINGS = [True, False, None, 0, 1, -1, 97, 10 ** 39, b"", b"a", b"x", (), ("a",), ("x",), [], ["a"], {},
              {"a": "a"}, {"x"}, object(), Touchy(), str, len, nested_list(9)]
NO_EXPRESSIONS = [True, False, None, 0, 1, "", "x", "'a'", "weave(x, y)", b"x", (), ("x",), [], ["x"], {}, {"x"},
                  object(), Touchy(), int, len, nested_list(9)]


class Expecting(unittest.TestCase):
    def raised(self, error, call, *values, **named):
        """The error that the call raises; it is of this very class."""
        try:
            call(*values, **named)
        except Exception as caught:
            self.assertIs(type(caught), error)
            return caught
        return self.fail(f"{error.__name__} was not raised")

    def given(self, error, wrong, call, *values, **named):
        """The call raises this error with the very value that was passed."""
        caught = self.raised(error, call, *values, **named)
        self.assertIs(caught.given, wrong)

    def number(self, wrong, error, call, *values, **named):
        """The same for an integer that the program counts itself."""
        caught = self.raised(error, call, *values, **named)
        self.assertIs(type(caught.given), int)
        self.assertEqual(caught.given, wrong)
