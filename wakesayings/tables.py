"""Tables: papers for words that do not come."""

from wakesayings.books import need_book
from wakesayings.checks import is_list
from wakesayings.coming import comes
from wakesayings.fronts import Front, need_front
from wakesayings.steps import in_order_of_keys, key_of, steps_from
from wakesayings.words import need_word


def is_row_of_fronts(value):
    """Whether any value is a tuple of a front and a standing front that has it within."""
    if not isinstance(value, tuple) or len(value) != 2:
        return False
    return isinstance(value[0], Front) and isinstance(value[1], Front) and value[0].is_within(value[1])


def has_all_makes(book, standing):
    """Whether the makes of each saying are in the standing front if its triggers are."""
    for saying in book.sayings():
        if saying.trigger_front().is_within(standing) and not saying.make_front().is_within(standing):
            return False
    return True


def is_met_behind(table, standing, letter):
    """Whether some tuple of the table stands for what is behind the letter of a standing front."""
    behind = standing // letter
    for front, held in table:
        if behind.is_within(front) and held.lifted(letter).is_within(standing):
            return True
    return False


def is_closed(book, table, standing):
    """Whether all that a table asks for holds for one of its standing fronts."""
    if not has_all_makes(book, standing):
        return False
    return all([is_met_behind(table, standing, letter) for letter in standing.letters()])


def table_of(book, front):
    """The list of the tuples (front, coming front) of all fronts that are reached from a front."""
    need_book(book)
    need_front(front)
    reached = steps_from(book, front).reached([key_of(front)])
    return [(Front(key), Front(words)) for key, words in in_order_of_keys(reached)]


def is_table(book, value):
    """Whether any value is a table."""
    need_book(book)
    if not is_list(value) or not all([is_row_of_fronts(row) for row in value]):
        return False
    return all([is_closed(book, value, standing) for front, standing in value])


def table_without(book, front, word):
    """A table that shows that the word does not come from the front; None if it comes."""
    need_book(book)
    need_front(front)
    need_word(word)
    return None if comes(book, front, word) else table_of(book, front)


def shows(book, front, word, value):
    """Whether any value is a table that shows that the word does not come from the front."""
    need_book(book)
    need_front(front)
    need_word(word)
    if not is_table(book, value):
        return False
    return any([front.is_within(told) and word not in standing for told, standing in value])
