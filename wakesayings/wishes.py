"""Wishes: what a changed book must do, the cheapest choices by which it does, and papers against the others."""

from wakesayings.books import Book, need_book
from wakesayings.ending import ends, is_lasso, lasso_of
from wakesayings.errors import InvalidChoice, InvalidOffers, InvalidWish
from wakesayings.finding import finds_all, is_missing_paper, missing_paper
from wakesayings.offers import Offers

GOES_ON = "goes on"
MISSES = "misses"


def need_offers(value):
    """Raise InvalidOffers unless the value is an Offers."""
    if not isinstance(value, Offers):
        raise InvalidOffers(None)


def need_wish(value):
    """Raise InvalidWish unless the value is a Wish."""
    if not isinstance(value, Wish):
        raise InvalidWish(value)


def need_choice(offers, value):
    """Raise InvalidChoice unless the value is a choice of the offers."""
    if value not in offers:
        raise InvalidChoice(value)


class Wish:
    """Whether a book must end, and a book all that is found by which it must find; it never changes."""

    def __init__(self, *, must_end=True, goals=None):
        if not isinstance(must_end, bool):
            raise InvalidWish(must_end)
        if goals is not None:
            need_book(goals)
        self._must_end = must_end
        self._goals = Book() if goals is None else goals

    @property
    def must_end(self):
        """Whether the book must end."""
        return self._must_end

    @property
    def goals(self):
        """The book all that is found by which must be found."""
        return self._goals

    def __call__(self, book):
        need_book(book)
        return (not self._must_end or ends(book)) and finds_all(book, self._goals)

    def __eq__(self, other):
        return isinstance(other, Wish) and self._must_end == other._must_end and self._goals == other._goals


def cheapest(offers, wish):
    """The tuple (price, sorted list of choices) of the choices with the least price that fulfil the wish, or None."""
    need_offers(offers)
    need_wish(wish)
    least = None
    found = []
    for choice in offers.choices():
        price = offers.price(choice)
        if least is not None and price > least:
            break
        if wish(offers.chosen(choice)):
            least = price
            found.append(choice)
    return None if least is None else (least, found)


def fault(offers, wish, choice):
    """A fault of the choice; None if it fulfils the wish."""
    need_offers(offers)
    need_wish(wish)
    need_choice(offers, choice)
    book = offers.chosen(choice)
    if wish.must_end and not ends(book):
        return (GOES_ON, lasso_of(book))
    paper = missing_paper(book, wish.goals)
    return None if paper is None else (MISSES, paper)


def is_fault(offers, wish, choice, value):
    """Whether any value is a fault of the choice."""
    need_offers(offers)
    need_wish(wish)
    need_choice(offers, choice)
    if not isinstance(value, tuple) or len(value) != 2 or not isinstance(value[0], str):
        return False
    book = offers.chosen(choice)
    if value[0] == GOES_ON:
        return wish.must_end and is_lasso(book, value[1])
    return value[0] == MISSES and is_missing_paper(book, wish.goals, value[1])
