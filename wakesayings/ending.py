"""Ends: from which fronts the making ends, how great the end is then, and the papers for both."""

from wakesayings.books import need_book
from wakesayings.checks import is_count, is_list
from wakesayings.fronts import Front, need_front
from wakesayings.lines import lines_of, wrong_line
from wakesayings.steps import in_order_of_keys, key_of, keys_behind, steps_from
from wakesayings.tables import is_closed, is_row_of_fronts
from wakesayings.words import is_letter


def need_front_or_none(front):
    """Raise InvalidFront unless the value is a Front or None."""
    if front is not None:
        need_front(front)


def front_asked(book, front):
    """The front that is asked for: the full one for None."""
    return book.full_front() if front is None else front


def measures_of(reached):
    """The dict from the keys of the fronts from which the making ends to tuples (size, depth).

    Reached is a list as Steps.reached tells it.
    """
    # The fronts behind others stand at the end, and are measured first.
    behind = {key: [other for letter, other in keys_behind(words)] for key, words in reached[::-1]}
    found = {}
    before = -1
    while before < len(found):
        before = len(found)
        for key, others in behind.items():
            if key not in found and all([other in found for other in others]):
                size = 1 + sum([found[other][0] for other in others])
                depth = max([0] + [1 + found[other][1] for other in others])
                found[key] = (size, depth)
    return found


def measure_of(book, front):
    """The tuple (size, depth) of a front; None if the book goes on from it."""
    key = key_of(front)
    return measures_of(steps_from(book, front).reached([key])).get(key)


def ranked_rows(reached):
    """The ranked table of all the fronts of a list as Steps.reached tells it; the making ends from each."""
    measures = measures_of(reached)
    return [(Front(key), Front(words), measures[key][1]) for key, words in in_order_of_keys(reached)]


def lasso_from(steps, key):
    """A lasso whose first front has this key; the book goes on from it."""
    reached = steps.reached([key])
    ended = measures_of(reached)
    behind = {other: keys_behind(words) for other, words in reached}
    way = [key]
    letters = []
    while way[-1] not in way[:-1]:
        # There is one from which the making goes on, as it does from the front ahead.
        letter, other = [row for row in behind[way[-1]] if row[1] not in ended][0]
        way.append(other)
        letters.append(letter)
    pairs = [(way[at], (letter,) + word) for at, letter in enumerate(letters) for word in way[at + 1]]
    lines = lines_of(steps.leading_to(pairs), [])
    return ([Front(other) for other in way], letters, way.index(way[-1]), lines)


def is_ranked_row(value):
    """Whether any value is a tuple of a front, a standing front that has it within, and a rank."""
    if not isinstance(value, tuple) or len(value) != 3:
        return False
    return is_row_of_fronts(value[:2]) and is_count(value[2])


def is_ranked_table(book, value):
    """Whether any value is a ranked table, for whatever fronts."""
    if not is_list(value) or not all([is_ranked_row(row) for row in value]):
        return False
    for _, standing, rank in value:
        below = [(front, held) for front, held, other in value if other < rank]
        if not is_closed(book, below, standing):
            return False
    return True


def has_lasso_form(value):
    """Whether any value is made of what a lasso is made of, whatever its lines say."""
    if not isinstance(value, tuple) or len(value) != 4:
        return False
    fronts, letters, position, _ = value
    if not is_list(fronts) or len(fronts) < 2 or not all([isinstance(front, Front) for front in fronts]):
        return False
    if any([front.longest == Front.LONGEST for front in fronts[1:]]):
        return False
    if not is_list(letters) or len(letters) != len(fronts) - 1 or not all([is_letter(letter) for letter in letters]):
        return False
    return is_count(position) and position < len(fronts) - 1


def ends(book, front=None):
    """Whether the making ends from the front; for None, whether it ends from all webs."""
    need_book(book)
    need_front_or_none(front)
    return measure_of(book, front_asked(book, front)) is not None


def ranked_table(book, front=None):
    """A ranked table for the front, for None the full one; None if the book goes on from it."""
    need_book(book)
    need_front_or_none(front)
    asked = front_asked(book, front)
    if measure_of(book, asked) is None:
        return None
    return ranked_rows(steps_from(book, asked).reached([key_of(asked)]))


def is_ranked(book, value, front=None):
    """Whether any value is a ranked table for the front, for None the full one."""
    need_book(book)
    need_front_or_none(front)
    asked = front_asked(book, front)
    return is_ranked_table(book, value) and any([asked.is_within(row[0]) for row in value])


def lasso_of(book, front=None):
    """A lasso from the front, for None any one; None if there is none."""
    need_book(book)
    need_front_or_none(front)
    asked = front_asked(book, front)
    if measure_of(book, asked) is not None:
        return None
    return lasso_from(steps_from(book, asked), key_of(asked))


def is_lasso(book, value, front=None):
    """Whether any value is a lasso from the front; for None, whether it is any lasso."""
    need_book(book)
    need_front_or_none(front)
    if not has_lasso_form(value):
        return False
    fronts, letters, position, lines = value
    if front is not None and not fronts[0].is_within(front):
        return False
    if wrong_line(book, lines) is not None or not fronts[position].is_within(fronts[-1]):
        return False
    told = {(key_of(row[0]), row[1]): True for row in lines}
    needed = [(key_of(fronts[at]), (letter,) + word)
              for at, letter in enumerate(letters) for word in fronts[at + 1].words()]
    return all([pair in told for pair in needed])


def front_size(book, front):
    """The number of knots of the end of the front's web; None if the book goes on from it."""
    need_book(book)
    need_front(front)
    measure = measure_of(book, front)
    return None if measure is None else measure[0]


def front_depth(book, front):
    """The greatest number of letters of a term of the end of the front's web; None if the book goes on from it."""
    need_book(book)
    need_front(front)
    measure = measure_of(book, front)
    return None if measure is None else measure[1]
