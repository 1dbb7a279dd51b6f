"""What comes from fronts, and which fronts are reached."""

from wakesayings.books import need_book
from wakesayings.fronts import Front, need_front
from wakesayings.steps import in_order_of_keys, key_of, steps_from
from wakesayings.words import need_letter, need_word


def coming_front(book, front):
    """The front of all words that come from a front."""
    need_book(book)
    need_front(front)
    return Front(steps_from(book, front).words(key_of(front)))


def comes(book, front, word):
    """Whether a word comes from a front."""
    need_book(book)
    need_front(front)
    need_word(word)
    return word in coming_front(book, front)


def behind_letter(book, front, letter):
    """The front that stands behind a letter in the coming front."""
    need_book(book)
    need_front(front)
    need_letter(letter)
    return coming_front(book, front) // letter


def reached_fronts(book, front):
    """The list of the fronts that are reached from a front, in order."""
    need_book(book)
    need_front(front)
    reached = steps_from(book, front).reached([key_of(front)])
    return [Front(key) for key, words in in_order_of_keys(reached)]


def each_reached(book, front):
    """Yields the front, then those behind the letters of each one that was yielded, in turn, each once."""
    need_book(book)
    need_front(front)
    for key, _ in steps_from(book, front).reached([key_of(front)]):
        yield Front(key)
