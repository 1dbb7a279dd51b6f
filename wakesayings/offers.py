"""Offers: other rows of triggers for the sayings of a book, with prices."""

from wakesayings.books import Book, need_book, need_number
from wakesayings.checks import is_count, is_list
from wakesayings.errors import InvalidChoice, InvalidNumber, InvalidOffers, TooMany
from wakesayings.sayings import first_wrong, is_row, letters_of
from wakesayings.words import in_order

MOST_CHOICES = 60


def is_offered(value):
    """Whether any value is a tuple of triggers and a price."""
    if not isinstance(value, tuple) or len(value) != 2:
        return False
    triggers, price = value
    if not is_row(triggers) or first_wrong(triggers) is not None:
        return False
    return is_count(price) and price >= 1


def is_offer_for(saying, value):
    """Whether any value is a list of offered rows for a saying, all with different words than it and one another."""
    if not is_list(value) or not all([is_offered(row) for row in value]):
        return False
    held = [saying.triggers()]
    for triggers, _ in value:
        if in_order(triggers) in held:
            return False
        held.append(in_order(triggers))
    return True


def need_rows(book, rows):
    """Raise InvalidOffers unless the value is an empty list, or a list of offered rows for each saying."""
    if not is_list(rows) or len(rows) not in (0, len(book)):
        raise InvalidOffers(None)
    for position, offered in enumerate(rows):
        if not is_offer_for(book[position], offered):
            raise InvalidOffers(position)


def rows_by_number(book, rows):
    """The list, for each saying, of the tuples (triggers, price) that can be chosen, its own ones first."""
    found = [[(saying.triggers(), 0)] for saying in book.sayings()]
    for number, offered in enumerate(rows):
        found[number] = found[number] + [(in_order(triggers), price) for triggers, price in offered]
    return found


def need_few_choices(rows):
    """Raise TooMany if the rows give more choices than the limit."""
    many = 1
    for offered in rows:
        many = many * len(offered)
    if many > MOST_CHOICES:
        raise TooMany("choices", MOST_CHOICES)


def price_of(rows, choice):
    """The sum of the prices of the chosen rows."""
    return sum([rows[number][k][1] for number, k in enumerate(choice)])


def choices_of(rows):
    """The list of all choices, those with lesser prices first, then sorted."""
    found = [()]
    for offered in rows:
        found = [choice + (k,) for choice in found for k in range(len(offered))]
    return sorted(found, key=lambda choice: (price_of(rows, choice), choice))


class Offers:
    """A book, and other rows of triggers with prices for its sayings; it never changes."""

    def __init__(self, book, rows=()):
        need_book(book)
        need_rows(book, rows)
        found = rows_by_number(book, rows)
        words = [trigger for offered in found for triggers, price in offered for trigger in triggers]
        if len(letters_of([book.letters()] + words)) > Book.MOST_LETTERS:
            raise TooMany("letters", Book.MOST_LETTERS)
        need_few_choices(found)
        self._book = book
        self._rows = found
        self._choices = choices_of(found)

    @property
    def book(self):
        """The book as it is without changes."""
        return self._book

    def row(self, number, k):
        """The list of the triggers that a count of a choice stands for."""
        need_number(self._book, number)
        if not is_count(k) or k >= len(self._rows[number]):
            raise InvalidNumber(k)
        return list(self._rows[number][k][0])

    def choices(self):
        """Yields all choices, those with lesser prices first, then sorted."""
        for choice in self._choices:
            yield choice

    def __len__(self):
        return len(self._choices)

    def __contains__(self, value):
        return isinstance(value, tuple) and all([is_count(k) for k in value]) and value in self._choices

    def price(self, choice):
        """The sum of the prices of what a choice takes."""
        if choice not in self:
            raise InvalidChoice(choice)
        return price_of(self._rows, choice)

    def chosen(self, choice):
        """The book with the triggers that a choice takes."""
        if choice not in self:
            raise InvalidChoice(choice)
        sayings = self._book.sayings()
        return Book([saying.with_triggers(self.row(number, choice[number])) for number, saying in enumerate(sayings)])
