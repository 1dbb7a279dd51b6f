"""Lines and derivations: papers for words that come."""

from wakesayings.books import need_book
from wakesayings.checks import is_count, is_list
from wakesayings.fronts import Front, need_front
from wakesayings.steps import TOLD, Steps, key_of
from wakesayings.words import is_letter, is_word, need_word

MOST_IN_REASON = 5


def is_reason(value):
    """Whether any value has one of the three forms of reasons."""
    if isinstance(value, str):
        return value == TOLD
    if isinstance(value, tuple):
        return len(value) == 2 and is_letter(value[0]) and isinstance(value[1], Front)
    return is_count(value) and value <= MOST_IN_REASON


def is_line(value):
    """Whether any value is a line, right or not."""
    if not isinstance(value, tuple) or len(value) != 3:
        return False
    return isinstance(value[0], Front) and is_word(value[1]) and is_reason(value[2])


def is_right_by_saying(book, ahead, key, word, number):
    """Whether the lines ahead have all triggers of the saying, and the word is a beginning of one of its makes."""
    if number >= len(book):
        return False
    met = all([(key, trigger) in ahead for trigger in book[number].triggers()])
    return met and word in book[number].make_front()


def is_right_by_letter(ahead, key, word, reason):
    """Whether the word comes behind the letter from the other front, all of which stands behind the letter here."""
    letter, other = reason
    behind = key_of(other)
    if word[:1] != (letter,) or (behind, word[1:]) not in ahead:
        return False
    # For a word of three letters there is no such line, as no word has four.
    return all([(key, (letter,) + held) in ahead for held in behind])


def is_right(book, ahead, line):
    """Whether a line is right by those ahead, a dict with keys (key of the front, word)."""
    front, word, reason = line
    if isinstance(reason, str):
        return word in front
    if isinstance(reason, tuple):
        return is_right_by_letter(ahead, key_of(front), word, reason)
    return is_right_by_saying(book, ahead, key_of(front), word, reason)


def wrong_line(book, value):
    """The position of the first element that is no line or not right; None if all are right; -1 if it is no list."""
    need_book(book)
    if not is_list(value):
        return -1
    ahead = {}
    for position, line in enumerate(value):
        if not is_line(line) or not is_right(book, ahead, line):
            return position
        ahead[key_of(line[0]), line[1]] = True
    return None


def lines_of(steps):
    """The list of the lines that tell the steps of a list."""
    # A front behind a letter is that of an earlier step, too.
    fronts = {key: Front(key) for key, word, reason in steps}
    lines = []
    for key, word, reason in steps:
        if isinstance(reason, tuple):
            letter, behind = reason
            lines.append((fronts[key], word, (letter, fronts[behind])))
        else:
            lines.append((fronts[key], word, reason))
    return lines


def derivation_of(book, front, word):
    """A derivation of the front and the word; None if the word does not come."""
    need_book(book)
    need_front(front)
    need_word(word)
    steps = Steps(book, front)
    if word not in steps.words():
        return None
    return lines_of(steps.leading_to(word))


def is_derivation(book, front, word, value):
    """Whether any value is a derivation of the front and the word."""
    need_book(book)
    need_front(front)
    need_word(word)
    if wrong_line(book, value) is not None or not value:
        return False
    return value[-1][0] == front and value[-1][1] == word
