"""Books: a few sayings, in a sequence."""

from wakesayings.checks import is_count, is_list
from wakesayings.errors import InvalidBook, InvalidNumber, InvalidSayings, TooMany
from wakesayings.fronts import Front
from wakesayings.sayings import Saying, letters_of, need_saying


def need_book(value):
    """Raise InvalidBook unless the value is a Book."""
    if not isinstance(value, Book):
        raise InvalidBook(value)


def need_sayings(sayings):
    """Raise InvalidSayings unless the value is a list of Sayings."""
    if not is_list(sayings):
        raise InvalidSayings(None)
    for position, saying in enumerate(sayings):
        if not isinstance(saying, Saying):
            raise InvalidSayings(position)


def need_number(book, value):
    """Raise InvalidNumber unless the value is the number of a saying of the book."""
    if not is_count(value) or value >= len(book):
        raise InvalidNumber(value)


class Book:
    """At most six sayings, of at most three letters together; it never changes."""

    MOST_SAYINGS = 6
    MOST_LETTERS = 3

    def __init__(self, sayings=()):
        need_sayings(sayings)
        if len(sayings) > Book.MOST_SAYINGS:
            raise TooMany("sayings", Book.MOST_SAYINGS)
        self._sayings = list(sayings)
        if len(self.letters()) > Book.MOST_LETTERS:
            raise TooMany("letters", Book.MOST_LETTERS)

    def sayings(self):
        """The list of its sayings."""
        return list(self._sayings)

    def __getitem__(self, number):
        need_number(self, number)
        return self._sayings[number]

    def __iter__(self):
        raise TypeError("a book is not iterated over")

    def __len__(self):
        return len(self._sayings)

    def __contains__(self, value):
        return any([saying == value for saying in self._sayings])

    def __add__(self, saying):
        need_saying(saying)
        return Book(self._sayings + [saying])

    def __or__(self, other):
        need_book(other)
        return Book(self._sayings + [saying for saying in other.sayings() if saying not in self])

    def without(self, number):
        """The book of all its sayings but one."""
        need_number(self, number)
        return Book([saying for at, saying in enumerate(self._sayings) if at != number])

    def kept(self, numbers):
        """The book of the sayings with these numbers, in the sequence of the book, each once."""
        if not is_list(numbers):
            raise InvalidNumber(None)
        for number in numbers:
            need_number(self, number)
        return Book([saying for at, saying in enumerate(self._sayings) if at in numbers])

    def exchanged(self, number, saying):
        """The book with another saying in the place of one."""
        need_number(self, number)
        need_saying(saying)
        return Book([saying if at == number else held for at, held in enumerate(self._sayings)])

    def letters(self):
        """The sorted list of all its letters."""
        return letters_of([saying.letters() for saying in self._sayings])

    def make_letters(self):
        """The sorted list of the letters of its makes."""
        return letters_of([saying.make_letters() for saying in self._sayings])

    def full_front(self):
        """The front of all words of its makes' letters that are shorter than its longest make."""
        # The one that is added stands for the longest make of a book without sayings.
        longest = max([1] + [saying.make_front().longest for saying in self._sayings])
        return Front.full(self.make_letters(), longest - 1)

    def __eq__(self, other):
        return isinstance(other, Book) and self._sayings == other._sayings

    def __repr__(self):
        return f"Book({self._sayings!r})"
