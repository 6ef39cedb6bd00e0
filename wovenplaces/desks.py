"""Desks: books that are changed, with wishes that hold all the time."""

from wovenplaces.asking import check_book, is_count
from wovenplaces.errors import Broken, InvalidNumber, NothingToUndo
from wovenplaces.mends import shown_against


class State:
    """A book with its wishes, and the state from which a deed led to it; it is never changed."""

    def __init__(self, volume, asked, before):
        self.volume = volume
        self.asked = asked
        self.before = before
        self.deeds = 0 if before is None else before.deeds + 1


class Mark:
    """The state in which a trial began, and the mark of the same trial around it."""

    def __init__(self, state, outer):
        self.state = state
        self.outer = outer


class Trial:
    """For a with statement: the desk is again as it was if the rows of the statement end with an exception."""

    def __init__(self, desk):
        self.desk = desk
        self.mark = None

    def __enter__(self):
        self.mark = Mark(self.desk.state, self.mark)
        return self.desk

    def __exit__(self, kind, value, trace):
        if kind is not None:
            self.desk.state = self.mark.state
        self.mark = self.mark.outer


class Desk:
    """A book that is changed, at first without wishes."""

    def __init__(self, book):
        check_book(book)
        self.state = State(book, (), None)

    @property
    def book(self):
        return self.state.volume

    @property
    def wishes(self):
        return self.state.asked

    @property
    def changes(self):
        return self.state.deeds

    def put_row(self, name, expression):
        """A row of the book gets another expression, if all wishes hold for the book that this makes."""
        book = self.state.volume.with_row(name, expression)
        for index, wish in enumerate(self.state.asked):
            shown = shown_against(book, wish)
            if shown is not None:
                raise Broken(index, shown)
        self.state = State(book, self.state.asked, self.state)

    def wish(self, wish):
        """A wish more, if it holds."""
        asked = self.state.asked
        shown = shown_against(self.state.volume, wish)
        if shown is not None:
            raise Broken(len(asked), shown)
        self.state = State(self.state.volume, (*asked, wish), self.state)

    def lift(self, index):
        """Takes a wish away."""
        asked = self.state.asked
        if not is_count(index) or index >= len(asked):
            raise InvalidNumber(index)
        self.state = State(self.state.volume, asked[:index] + asked[index + 1:], self.state)

    def undo(self):
        """Takes back the last deed that has not been taken back."""
        if self.state.before is None:
            raise NothingToUndo()
        self.state = self.state.before

    def trial(self):
        return Trial(self)

    def tried(self, action):
        """What the action returns for the desk, which is as before if the action ends with an exception."""
        with self.trial():
            told = action(self)
        return told
