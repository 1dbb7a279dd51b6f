"""Wishes, cheapest choices and faults: [2], [4], [82]."""

import random
import unittest

from helping import (
    BACK, LOOP, UP, Checks, any_values, changed_part, error_of, no_books, not_of, plain_lasso, random_short_book,
    some_books, with_odd_parts, wrong,
)
from naive import is_lasso_one, missed_of, size_and_depth
from test_finding import is_missing
from test_offers import random_offers
from wakesayings.books import Book
from wakesayings.ending import lasso_of
from wakesayings.errors import InvalidBook, InvalidChoice, InvalidOffers, InvalidWish
from wakesayings.finding import missing_paper
from wakesayings.offers import Offers
from wakesayings.sayings import Saying
from wakesayings.wishes import Wish, cheapest, fault, is_fault

BOOK = Book([UP, BACK])
ROWS = [[([("f", "f")], 2)], [([("g", "g")], 1), ([("f", "g")], 3)]]
OFFERS = Offers(BOOK, ROWS)
GOAL = Book([Saying([("g",)], [("g", "f")])])
ALL_CHOICES = [(0, 0), (0, 1), (0, 2), (1, 0), (1, 1), (1, 2)]


def no_offers():
    return [(value, InvalidOffers, {"position": None}) for value in any_values() + [Wish(), Offers, [OFFERS], ROWS]]


def no_wishes():
    return wrong(InvalidWish, any_values() + [OFFERS, Wish, [Wish()], lambda book: True])


def no_choices():
    return wrong(InvalidChoice, [value for value in any_values() if value not in ALL_CHOICES] + [
        [0, 0], (True, 0), (0, False), (0, 3), (2, 0), (0, 0, 0), (-1, 0)])


def fulfils(book, must_end, goals):
    if must_end and size_and_depth(book, book.full_front().words()) is None:
        return False
    return missed_of(book, goals) is None


def is_fault_of(book, must_end, goals, value):
    """Whether a value is a fault of a changed book, in plain words."""
    if type(value) is not tuple or len(value) != 2 or type(value[0]) is not str:
        return False
    if value[0] == "goes on":
        return must_end and plain_lasso(value[1]) and is_lasso_one(book, value[1])
    return value[0] == "misses" and is_missing(book, goals, value[1])


def some_wishes(chance):
    goals = random_short_book(chance)
    return [Wish(), Wish(goals=goals), Wish(must_end=False, goals=goals), Wish(must_end=False)]


class WishTest(unittest.TestCase, Checks):

    def test_parts(self):
        wish = Wish()
        self.assert_same([wish.must_end, wish.goals], [True, Book()])
        self.assert_same([Wish(must_end=False).must_end, Wish(goals=GOAL).goals], [False, GOAL])
        self.assert_same([Wish(goals=None).goals, Wish(must_end=True, goals=Book()).goals], [Book(), Book()])

    def test_equality(self):
        self.assertEqual(Wish(), Wish(must_end=True, goals=Book()))
        self.assertEqual(Wish(goals=GOAL), Wish(goals=Book(GOAL.sayings())))
        rows = [Wish(), Wish(must_end=False), Wish(goals=GOAL), Wish(must_end=False, goals=GOAL), Wish(goals=BOOK),
                Wish(goals=Book([BACK, UP]))]
        for at, one in enumerate(rows):
            for other, another in enumerate(rows):
                self.assertIs(one == another, at == other)
                self.assertIs(one != another, at != other)
            for value in any_values():
                self.assertIs(one == value, False)

    def test_nothing_is_asked(self):
        wish = Wish(must_end=False)
        for book in some_books():
            self.assertIs(wish(book), True)

    def test_only_an_end_is_asked(self):
        told = {True: 0, False: 0}
        for book in some_books():
            ending = size_and_depth(book, book.full_front().words()) is not None
            self.assertIs(Wish()(book), ending)
            told[ending] += 1
        self.assertGreater(min(told.values()), 3)

    def test_only_goals_are_asked(self):
        for book in some_books():
            for goals in some_books():
                self.assertIs(Wish(must_end=False, goals=goals)(book=book), missed_of(book, goals) is None)

    def test_both_are_asked(self):
        for book in some_books():
            for goals in some_books():
                self.assertIs(Wish(goals=goals)(book), fulfils(book, True, goals))

    def test_wrong_parameters(self):
        for value in any_values():
            if type(value) is not bool:
                self.assert_invalid(InvalidWish, value, Wish, must_end=value)
                self.assert_invalid(InvalidWish, value, Wish, must_end=value, goals=None)
                self.assert_invalid(InvalidWish, value, Wish, goals=3, must_end=value)
            if value is not None and not isinstance(value, Book):
                self.assert_invalid(InvalidBook, value, Wish, goals=value)
                self.assert_invalid(InvalidBook, value, Wish, must_end=False, goals=value)
        for value, kind, parts in no_books():
            self.assert_raises(kind, parts, Wish(), value)
            self.assert_raises(kind, parts, Wish(must_end=False), book=value)
        # They are passed by name only.
        self.assertIsInstance(error_of(Wish, True), TypeError)
        self.assertIsInstance(error_of(Wish, True, GOAL), TypeError)

    def test_its_parts_are_only_read(self):
        for name in ("must_end", "goals"):
            self.assertIsInstance(error_of(setattr, Wish(), name, None), AttributeError)


class CheapestTest(unittest.TestCase, Checks):

    def test_examples(self):
        self.assert_same(cheapest(OFFERS, Wish()), (1, [(0, 1)]))
        self.assert_same(cheapest(wish=Wish(must_end=False), offers=OFFERS), (0, [(0, 0)]))

    def test_several(self):
        f, g, h = [("f",)], [("g",)], [("h",)]
        book = Book([Saying(f, [("f", "g")]), Saying(g, [("g", "f")]), Saying(h, [("h", "h")])])
        offers = Offers(book, [[([("f", "f")], 1)], [([("g", "g")], 1)], [([("h", "h", "h")], 2), ([("f", "f", "f")], 2)]])
        self.assert_same(cheapest(offers, Wish()), (3, [(0, 1, 1), (0, 1, 2), (1, 0, 1), (1, 0, 2)]))
        self.assert_same(cheapest(offers, Wish(must_end=False)), (0, [(0, 0, 0)]))
        self.assert_same(cheapest(offers, Wish(goals=Book([Saying(g, [("g", "f")])]))), (3, [(1, 0, 1), (1, 0, 2)]))

    def test_none_fulfils_it(self):
        self.assertIsNone(cheapest(OFFERS, Wish(goals=BOOK)))
        self.assertIsNone(cheapest(Offers(BOOK), Wish()))
        self.assertIsNone(cheapest(OFFERS, Wish(must_end=False, goals=Book([Saying([("f",)], [("h",)])]))))
        self.assertIsNone(cheapest(Offers(Book()), Wish(goals=BOOK)))
        self.assert_same(cheapest(Offers(Book()), Wish()), (0, [()]))

    def test_as_the_plain_words_say(self):
        chance = random.Random(82)
        counts = {"none": 0, "one": 0, "several": 0, "free": 0}
        for _ in range(150):
            book, rows = random_offers(chance, 1)
            offers = Offers(book, rows)
            for wish in some_wishes(chance):
                prices = {choice: offers.price(choice) for choice in offers.choices()
                          if fulfils(offers.chosen(choice), wish.must_end, wish.goals)}
                least = min(prices.values(), default=None)
                told = None if least is None else (least, sorted(choice for choice in prices if prices[choice] == least))
                self.assert_same(cheapest(offers, wish), told)
                self.assert_same(cheapest(wish=wish, offers=offers), told)
                counts["none" if told is None else "free" if not least else "one" if len(told[1]) == 1 else "several"] += 1
        self.assertGreater(min(counts.values()), 2, counts)

    def test_wrong_parameters(self):
        self.assert_parameters(cheapest, {"offers": OFFERS, "wish": Wish()}, {"offers": no_offers(), "wish": no_wishes()})

    def test_returned_lists_are_new(self):
        cheapest(OFFERS, Wish())[1].clear()
        self.assert_same(cheapest(OFFERS, Wish()), (1, [(0, 1)]))


class FaultTest(unittest.TestCase, Checks):

    def test_examples(self):
        self.assertIsNone(fault(OFFERS, Wish(), (0, 1)))
        told = fault(OFFERS, Wish(), (0, 0))
        self.assert_same(told[0], "goes on")
        self.assertIs(is_fault(OFFERS, Wish(), (0, 0), told), True)
        self.assertIs(is_fault(OFFERS, Wish(must_end=False), (0, 0), told), False)
        self.assertIs(is_fault(OFFERS, Wish(), (0, 1), told), False)
        wish = Wish(must_end=False, goals=GOAL)
        missing = fault(OFFERS, wish, (0, 1))
        self.assert_same(missing[:1] + missing[1][:2], ("misses", 0, ("g", "f")))
        self.assertIs(is_fault(OFFERS, wish, (0, 1), missing), True)
        self.assertIs(is_fault(OFFERS, wish, (0, 0), missing), False)
        self.assertIs(is_fault(OFFERS, Wish(), (0, 1), missing), False)

    def test_either_kind_of_fault(self):
        book = Book([LOOP])
        offers = Offers(book)
        wish = Wish(goals=Book([Saying([("f",)], [("g",)])]))
        for told in [("goes on", lasso_of(book)), ("misses", missing_paper(book, wish.goals))]:
            self.assertIs(is_fault(offers, wish, (0,), told), True)
            for value in [list(told), told[:1], told + (0,), (told[0], None), (told[0], (told[1],)), (told[0] + " ", told[1]),
                          (told[0].title(), told[1]), (True, told[1]), (None, told[1]), (told[1], told[0]), told[1]]:
                self.assertIs(is_fault(offers, wish, (0,), value), False)
        self.assertIs(is_fault(offers, wish, (0,), ("misses", lasso_of(book))), False)
        self.assertIs(is_fault(offers, wish, (0,), ("goes on", missing_paper(book, wish.goals))), False)
        self.assertIs(is_fault(offers, Wish(must_end=False), (0,), ("goes on", lasso_of(book))), False)

    def test_as_the_plain_words_say(self):
        chance = random.Random(83)
        counts = {"goes on": 0, "misses": 0, "none": 0}
        changes = {True: 0, False: 0}
        for _ in range(60):
            book, rows = random_offers(chance)
            offers = Offers(book, rows)
            for wish in some_wishes(chance):
                choices = list(offers.choices())
                for choice in chance.sample(choices, min(4, len(choices))):
                    told = fault(offers, wish, choice)
                    changed = offers.chosen(choice)
                    self.assertIs(told is None, fulfils(changed, wish.must_end, wish.goals))
                    counts["none" if told is None else told[0]] += 1
                    if told is not None:
                        self.assertTrue(is_fault_of(changed, wish.must_end, wish.goals, told))
                        self.assertIs(is_fault(offers, wish, choice, told), True)
                        self.assertIs(is_fault(value=told, choice=choice, wish=wish, offers=offers), True)
                        self.assert_same(fault(choice=choice, wish=wish, offers=offers), told)
                        value = changed_part(chance, told)
                        right = bool(is_fault_of(changed, wish.must_end, wish.goals, value))
                        self.assertIs(is_fault(offers, wish, choice, value), right)
                        changes[right] += 1
        self.assertGreater(min([*counts.values(), *changes.values()]), 15)

    def test_each_other_choice_has_one(self):
        # Against each choice with a lesser price there is a fault, so nothing cheaper fulfils the wish.
        chance = random.Random(84)
        for _ in range(40):
            book, rows = random_offers(chance)
            offers = Offers(book, rows)
            for wish in some_wishes(chance):
                told = cheapest(offers, wish)
                for choice in offers.choices():
                    if told is None or offers.price(choice) < told[0]:
                        self.assertIs(is_fault(offers, wish, choice, fault(offers, wish, choice)), True)

    def test_objects_of_other_classes(self):
        wish = Wish(goals=Book([Saying([("g",)], [("h",)])]))
        for told in (fault(OFFERS, wish, (0, 0)), fault(OFFERS, wish, (0, 1))):
            self.assertIs(is_fault(OFFERS, wish, (0, int(told[0] == "misses")), told), True)
            for value in with_odd_parts(told):
                self.assertIs(is_fault(OFFERS, wish, (0, 1), value), False)
                self.assertIs(is_fault(OFFERS, wish, (0, 0), value), False)
        for value in with_odd_parts((0, 1)):
            self.assertIs(value in OFFERS, False)

    def test_what_is_none(self):
        for value in any_values():
            for choice in ALL_CHOICES:
                self.assertIs(is_fault(OFFERS, Wish(goals=GOAL), choice, value), False)
                self.assertIs(is_fault(OFFERS, Wish(goals=GOAL), choice, ("goes on", value)), False)
                self.assertIs(is_fault(OFFERS, Wish(goals=GOAL), choice, ("misses", value)), False)
                self.assertIs(is_fault(OFFERS, Wish(goals=GOAL), choice, (value, value)), False)

    def test_wrong_parameters(self):
        good = {"offers": OFFERS, "wish": Wish(), "choice": (0, 0)}
        rows = {"offers": no_offers(), "wish": no_wishes(), "choice": no_choices()}
        self.assert_parameters(fault, good, rows)
        for value in (None, fault(**good)):
            self.assert_parameters(is_fault, dict(good, value=value), rows)
        self.assertEqual([row[0] for row in not_of(Offers, InvalidOffers)][:5], [row[0] for row in no_offers()][:5])


if __name__ == "__main__":
    unittest.main()
