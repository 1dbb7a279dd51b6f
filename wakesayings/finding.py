"""Finding: whether one book finds all that another one finds, from every web, and which sayings that needs."""

from wakesayings.books import need_book
from wakesayings.checks import is_count, is_list
from wakesayings.coming import coming_front
from wakesayings.lines import lines_of, wrong_line
from wakesayings.steps import key_of, steps_from
from wakesayings.tables import shows, table_of
from wakesayings.words import is_word


def first_missed(book, other):
    """The tuple (number, make) of the first make that the other book has and that is missed; None if none is."""
    need_book(book)
    need_book(other)
    for number, saying in enumerate(other.sayings()):
        came = coming_front(book, saying.trigger_front())
        for make in saying.makes():
            if make not in came:
                return (number, make)
    return None


def finds_all(book, other):
    """Whether the book finds all that another one finds, from every web."""
    return first_missed(book, other) is None


def alike(book, other):
    """Whether each of the two books finds all that the other one finds."""
    return finds_all(book, other) and finds_all(other, book)


def finding_lines(book, saying):
    """A derivation with a line for each make of a saying, from the front of its triggers; all of them come."""
    key = key_of(saying.trigger_front())
    return lines_of(steps_from(book, saying.trigger_front()).leading_to([(key, make) for make in saying.makes()]), [])


def finding_paper(book, other):
    """A finding paper; None if the book does not find all that the other one finds."""
    if not finds_all(book, other):
        return None
    return [finding_lines(book, saying) for saying in other.sayings()]


def has_makes(book, saying, value):
    """Whether any value is a derivation with a line for each make of the saying, from the front of its triggers."""
    if wrong_line(book, value) is not None:
        return False
    begin = saying.trigger_front()
    found = [line[1] for line in value if line[0] == begin]
    return all([make in found for make in saying.makes()])


def is_finding_paper(book, other, value):
    """Whether any value is a finding paper."""
    need_book(book)
    need_book(other)
    if not is_list(value) or len(value) != len(other):
        return False
    return all([has_makes(book, saying, value[number]) for number, saying in enumerate(other.sayings())])


def missing_paper(book, other):
    """A missing paper; None if the book finds all that the other one finds."""
    missed = first_missed(book, other)
    if missed is None:
        return None
    number, make = missed
    return (number, make, table_of(book, other[number].trigger_front()))


def is_missing_paper(book, other, value):
    """Whether any value is a missing paper."""
    need_book(book)
    need_book(other)
    if not isinstance(value, tuple) or len(value) != 3:
        return False
    number, make, table = value
    if not is_count(number) or number >= len(other) or not is_word(make):
        return False
    return make in other[number].makes() and shows(book, other[number].trigger_front(), make, table)


def needless(book):
    """The sorted list of the numbers of the sayings without which the book finds as much."""
    need_book(book)
    return [number for number in range(len(book)) if finds_all(book.without(number), book)]


def is_part_of(least, part):
    """Whether all numbers of the one list are in the other one."""
    return all([number in part for number in least])


def least_sets(book):
    """The list of the sorted lists of the numbers of least sets, the shorter ones first, then sorted."""
    need_book(book)
    parts = [[]]
    for number in range(len(book)):
        parts = parts + [row + [number] for row in parts]
    found = []
    # More sayings find more, so a part is least if it finds all and no least one found before is within it.
    for part in sorted(parts, key=lambda row: (len(row), row)):
        is_wider = any([is_part_of(least, part) for least in found])
        if not is_wider and finds_all(book.kept(part), book):
            found.append(part)
    return found
