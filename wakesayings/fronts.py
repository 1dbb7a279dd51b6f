"""Fronts: sets of words that have all beginnings of their words."""

from wakesayings.checks import is_count, is_list
from wakesayings.errors import InvalidFront, InvalidLetter, InvalidNumber, TooMany, UnknownLetter
from wakesayings.words import beginnings, in_order, is_letter, is_word, need_letter

MOST_TOLD_LETTERS = 3


def need_front(value):
    """Raise InvalidFront unless the value is a Front."""
    if not isinstance(value, Front):
        raise InvalidFront(value)


def need_letters(letters):
    """Raise InvalidLetter unless the value is a list of letters."""
    if not is_list(letters):
        raise InvalidLetter(None)
    for letter in letters:
        need_letter(letter)


class Front:
    """A set of words that has all beginnings of its words; it never changes."""

    LONGEST = 3

    def __init__(self, words=()):
        # The empty word is in each front, also where no word is told that it begins.
        begun = [()] + [start for word in in_order(words) for start in beginnings(word)]
        # A dict, as both the order and a quick look-up are asked for.
        self._words = {word: True for word in in_order(begun)}

    @classmethod
    def full(cls, letters, many):
        """The front of all words over the letters with at most so many letters."""
        need_letters(letters)
        if not is_count(many) or many > cls.LONGEST:
            raise InvalidNumber(many)
        different = sorted(set(letters))
        if len(different) > MOST_TOLD_LETTERS:
            raise TooMany("letters", MOST_TOLD_LETTERS)
        found = [()]
        for _ in range(many):
            found = [()] + [word + (letter,) for word in found for letter in different]
        return cls(found)

    def words(self):
        """The list of its words, in order."""
        return list(self._words)

    def letters(self):
        """The sorted list of the letters that are words of it."""
        return sorted([word[0] for word in self._words if len(word) == 1])

    @property
    def longest(self):
        """The number of letters of its longest word."""
        return max([len(word) for word in self._words])

    def __contains__(self, value):
        return is_word(value) and value in self._words

    def __len__(self):
        return len(self._words)

    def __floordiv__(self, letter):
        if not is_letter(letter) or (letter,) not in self._words:
            raise UnknownLetter(letter)
        return Front([word[1:] for word in self._words if word[:1] == (letter,)])

    def __or__(self, other):
        need_front(other)
        return Front(self.words() + other.words())

    def __and__(self, other):
        need_front(other)
        return Front([word for word in self._words if word in other])

    def cut(self, many):
        """The front of its words with at most so many letters."""
        if not is_count(many):
            raise InvalidNumber(many)
        return Front([word for word in self._words if len(word) <= many])

    def lifted(self, letter):
        """The front of the letter followed by each of its words for which there is room."""
        need_letter(letter)
        return Front([(letter,) + word for word in self._words if len(word) < Front.LONGEST])

    def is_within(self, other):
        """Whether all its words are words of another front."""
        need_front(other)
        return all([word in other for word in self._words])

    def is_before(self, other):
        """Whether it stands ahead of another front in the order of fronts."""
        need_front(other)
        return (len(self), self.words()) < (len(other), other.words())

    def __eq__(self, other):
        return isinstance(other, Front) and self._words == other._words

    def __repr__(self):
        shown = [word for word in self._words if word]
        return f"Front({shown!r})"
