"""Instances and rounds over numbered leads, as in wakesayings.paths.

A book is told here by its rows, the tuples (triggers, makes) of its sayings; an instance is a tuple of the number
of a row and a knot. Nothing here changes what it is passed.
"""

from wakesayings.paths import count_knots, grown, need_few_knots, walk


def rows_of(book):
    """The rows of a book."""
    return [(saying.triggers(), saying.makes()) for saying in book.sayings()]


def can_walk_all(leads, knot, words):
    """Whether all the words can be walked from the knot."""
    for word in words:
        if walk(leads, knot, word) is None:
            return False
    return True


def possible_at(rows, leads):
    """The list of the instances that can be made, by the rows, then by the knots."""
    knots = range(1, count_knots(leads) + 1)
    return [(number, knot) for number, row in enumerate(rows) for knot in knots if can_walk_all(leads, knot, row[0])]


def new_at(rows, leads):
    """The list of the instances that are new, by the rows, then by the knots."""
    possible = possible_at(rows, leads)
    return [(number, knot) for number, knot in possible if not can_walk_all(leads, knot, rows[number][1])]


def made_at(rows, leads, found):
    """The leads when the instances of a list are made."""
    return grown(leads, [(knot, make) for number, knot in found for make in rows[number][1]])


def rested(rows, leads, limit, without):
    """The leads at rest to which rounds lead, and the number of these rounds; TooMany("knots", limit).

    The instances that the list of tuples (number, term) tells are not made.
    """
    now, many = leads, 0
    need_few_knots(now, limit)
    while True:
        # A term may come later than others of the list, so each round looks for all of them.
        barred = {(number, walk(now, 0, term)): True for number, term in without}
        found = [instance for instance in new_at(rows, now) if instance not in barred]
        if not found:
            return now, many
        now = made_at(rows, now, found)
        need_few_knots(now, limit)
        many += 1
