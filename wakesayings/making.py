"""Making: instances of a book in a web, one by one or in rounds."""

from wakesayings.books import need_book, need_number
from wakesayings.checks import is_count, is_list
from wakesayings.errors import CantMake, InvalidInstances
from wakesayings.paths import walk
from wakesayings.rounds import can_walk_all, made_at, new_at, possible_at, rested, rows_of
from wakesayings.webs import Web, is_term, knot_of_term, leads_of_web, need_web, web_of_leads

MOST_KNOTS_FOR_SURE = 60


def is_instance(book, value):
    """Whether any value is a tuple of the number of a saying and a term."""
    if not isinstance(value, tuple) or len(value) != 2:
        return False
    return is_count(value[0]) and value[0] < len(book) and is_term(value[1])


def need_instances(book, instances_told):
    """Raise InvalidInstances unless the value is a list of instances."""
    if not is_list(instances_told):
        raise InvalidInstances(None)
    for position, instance in enumerate(instances_told):
        if not is_instance(book, instance):
            raise InvalidInstances(position)


def told_by_terms(web, found):
    """The list of the instances, told by the least terms of their knots."""
    terms = web.knots()
    # The knots have numbers from 1 on.
    return [(number, terms[knot - 1]) for number, knot in found]


def can_make(book, web, number, term):
    """Whether the instance can be made: all triggers of the saying can be walked from the term's knot."""
    need_book(book)
    need_web(web)
    need_number(book, number)
    return can_walk_all(leads_of_web(web), knot_of_term(web, term), book[number].triggers())


def is_new(book, web, number, term):
    """Whether the instance can be made, and some make cannot be walked from the term's knot."""
    if not can_make(book, web, number, term):
        return False
    return not can_walk_all(leads_of_web(web), knot_of_term(web, term), book[number].makes())


def after_instance(book, web, number, term):
    """The web when the instance is made."""
    if not can_make(book, web, number, term):
        raise CantMake(number, term)
    return web_of_leads(made_at(rows_of(book), leads_of_web(web), [(number, knot_of_term(web, term))]))


def instances(book, web):
    """The sorted list of all instances that can be made."""
    need_book(book)
    need_web(web)
    return told_by_terms(web, possible_at(rows_of(book), leads_of_web(web)))


def new_instances(book, web):
    """The sorted list of all instances that are new."""
    need_book(book)
    need_web(web)
    return told_by_terms(web, new_at(rows_of(book), leads_of_web(web)))


def after_round(book, web):
    """The web when all instances that are new in it are made at once."""
    need_book(book)
    need_web(web)
    rows, leads = rows_of(book), leads_of_web(web)
    return web_of_leads(made_at(rows, leads, new_at(rows, leads)))


def each_round(book, web):
    """Yields the web behind the first round, the second one, and so on, to the end."""
    need_book(book)
    need_web(web)
    now = web
    while new_instances(book, now):
        now = after_round(book, now)
        yield now


def end_of(book, web, *, without=()):
    """The web at rest to which rounds lead in which the instances of a list are not made."""
    need_book(book)
    need_web(web)
    need_instances(book, without)
    leads, _ = rested(rows_of(book), leads_of_web(web), Web.MOST_KNOTS, without)
    return web_of_leads(leads)


def rounds_of(book, web):
    """How many rounds lead to rest."""
    need_book(book)
    need_web(web)
    _, many = rested(rows_of(book), leads_of_web(web), Web.MOST_KNOTS, [])
    return many


def is_sure(rows, leads, number, term):
    """Whether the instance at the term is new when all others are made."""
    others, _ = rested(rows, leads, MOST_KNOTS_FOR_SURE, [(number, term)])
    triggers, makes = rows[number]
    # The knot is there: an instance is made only where a knot is, so others led to it.
    knot = walk(others, 0, term)
    return can_walk_all(others, knot, triggers) and not can_walk_all(others, knot, makes)


def sure_instances(book, web):
    """The sorted list of the instances that are made whatever new instances lead to rest."""
    need_book(book)
    need_web(web)
    rows, leads = rows_of(book), leads_of_web(web)
    last, _ = rested(rows, leads, MOST_KNOTS_FOR_SURE, [])
    possible = instances(book, web_of_leads(last))
    return [(number, term) for number, term in possible if is_sure(rows, leads, number, term)]
