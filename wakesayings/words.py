"""Letters, and words of at most three letters that are read from the inside on."""

from wakesayings.checks import is_list
from wakesayings.errors import InvalidLetter, InvalidText, InvalidWord, InvalidWords

MOST_SIGNS = 8
MOST_IN_WORD = 3
EMPTY_TEXT = "-"


def is_letter(value):
    """Whether any value is a letter."""
    if not isinstance(value, str) or not 1 <= len(value) <= MOST_SIGNS:
        return False
    return all(["a" <= sign <= "z" for sign in value])


def is_word(value):
    """Whether any value is a word."""
    if not isinstance(value, tuple) or len(value) > MOST_IN_WORD:
        return False
    return all([is_letter(part) for part in value])


def need_letter(value):
    """Raise InvalidLetter unless the value is a letter."""
    if not is_letter(value):
        raise InvalidLetter(value)


def need_word(value):
    """Raise InvalidWord unless the value is a word."""
    if not is_word(value):
        raise InvalidWord(value)


def beginnings(word):
    """The list of the beginnings of a word, in order."""
    need_word(word)
    return [word[:many] for many in range(len(word) + 1)]


def in_order(words):
    """The list of the different words of a list, in order."""
    if not is_list(words):
        raise InvalidWords(None)
    for position, word in enumerate(words):
        if not is_word(word):
            raise InvalidWords(position)
    different = {word: True for word in words}
    return sorted(list(different), key=lambda row: (len(row), row))


def joined(word, next_word):
    """The word that has the letters of one word, then those of the next one."""
    need_word(word)
    need_word(next_word)
    both = word + next_word
    need_word(both)
    return both


def text_of_word(word):
    """The text of a word."""
    need_word(word)
    return ".".join(word) if word else EMPTY_TEXT


def read_word(text):
    """The word that has this text."""
    if not isinstance(text, str):
        raise InvalidText(1)
    if text == EMPTY_TEXT:
        return ()
    word = tuple(text.split("."))
    if not is_word(word):
        raise InvalidText(1)
    return word
