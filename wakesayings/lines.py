"""Lines and derivations: papers for words that come."""

from wakesayings.books import need_book
from wakesayings.checks import is_count, is_list
from wakesayings.fronts import Front, need_front
from wakesayings.steps import DOWN, TOLD, key_of, steps_from
from wakesayings.words import is_letter, is_word, need_word

MOST_IN_REASON = 5


def is_reason(value):
    """Whether any value has one of the three forms of reasons."""
    if isinstance(value, str):
        return value == TOLD
    if isinstance(value, tuple):
        return len(value) == 2 and is_letter(value[0]) and isinstance(value[1], Front)
    return is_count(value) and value <= MOST_IN_REASON


def is_line(value):
    """Whether any value is a line, right or not."""
    if not isinstance(value, tuple) or len(value) != 3:
        return False
    return isinstance(value[0], Front) and is_word(value[1]) and is_reason(value[2])


def is_right_by_saying(book, ahead, place, word, number):
    """Whether the lines ahead have all triggers of the saying, and the word is a beginning of one of its makes."""
    if number >= len(book):
        return False
    met = all([(place, trigger) in ahead for trigger in book[number].triggers()])
    return met and word in book[number].make_front()


def is_right_by_letter(ahead, place, word, reason):
    """Whether the word comes behind the letter from the other front, all of which stands behind the letter here."""
    letter, other = reason
    behind = key_of(other)
    if word[:1] != (letter,) or (behind, word[1:]) not in ahead:
        return False
    # For a word of three letters there is no such line, as no word has four.
    return all([(place, (letter,) + held) in ahead for held in behind])


def is_right(book, ahead, line):
    """Whether a line is right by those ahead, a dict with keys (key of the front, word)."""
    front, word, reason = line
    if isinstance(reason, str):
        return word in front
    if isinstance(reason, tuple):
        return is_right_by_letter(ahead, key_of(front), word, reason)
    return is_right_by_saying(book, ahead, key_of(front), word, reason)


def wrong_line(book, value):
    """The position of the first element that is no line or not right; None if all are right; -1 if it is no list."""
    need_book(book)
    if not is_list(value):
        return -1
    ahead = {}
    for position, line in enumerate(value):
        if not is_line(line) or not is_right(book, ahead, line):
            return position
        ahead[key_of(line[0]), line[1]] = True
    return None


def told_reason(told, reason):
    """The reason in a line for that of a step; told is a dict from places to what tells them in lines."""
    if not isinstance(reason, tuple):
        return reason
    if len(reason) == 2:
        return (reason[0], told[reason[1]])
    way, letter, knot = reason
    return (way, letter, told[knot]) if way == DOWN else (way, letter)


def lines_of(steps, terms):
    """The list of the lines that tell the steps of a list; terms are those that tell the knots from 1 on."""
    # The other place in a reason is that of an earlier step, too.
    places = {place: True for place, word, reason in steps}
    told = {place: terms[place - 1] if isinstance(place, int) else Front(place) for place in places}
    return [(told[place], word, told_reason(told, reason)) for place, word, reason in steps]


def derivation_of(book, front, word):
    """A derivation of the front and the word; None if the word does not come."""
    need_book(book)
    need_front(front)
    need_word(word)
    steps = steps_from(book, front)
    if word not in steps.words(key_of(front)):
        return None
    return lines_of(steps.leading_to([(key_of(front), word)]), [])


def is_derivation(book, front, word, value):
    """Whether any value is a derivation of the front and the word."""
    need_book(book)
    need_front(front)
    need_word(word)
    if wrong_line(book, value) is not None or not value:
        return False
    return value[-1][0] == front and value[-1][1] == word
