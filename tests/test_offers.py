"""Offers: [2], [81]."""

import itertools
import random
import unittest

from helping import BACK, UP, Checks, any_values, error_of, no_books, no_lists, some_words, wrong
from wakesayings.books import Book
from wakesayings.errors import InvalidBook, InvalidChoice, InvalidNumber, InvalidOffers, TooMany
from wakesayings.offers import Offers
from wakesayings.sayings import Saying

BOOK = Book([UP, BACK])
ROWS = [[([("f", "f")], 2)], [([("g", "g")], 1), ([("f", "g")], 3)]]
OFFERS = Offers(BOOK, ROWS)


def no_offered():
    """What is no tuple of triggers and a price."""
    good = [("g", "g")]
    values = any_values() + [good, [good, 1], (good,), (good, 1, 1), (1, good), ((), 1), ([], 1), ((("g",),), True)]
    values += [(good, value) for value in any_values() if type(value) is not int or value < 1]
    values += [(value, 1) for value in any_values()]
    values += [([value], 1) for value in any_values()] + [([("g", "g"), value], 1) for value in any_values()]
    values += [([("g",), ("g",)], 1), ([("f",), ("g",), ("f", "f"), ("g", "g")], 1), ([()], 1), ([("f",) * 4], 1)]
    return [value for value in values if not is_offered(value)]


def is_offered(value):
    if type(value) is not tuple or len(value) != 2 or type(value[0]) not in (list, tuple):
        return False
    words, price = value
    if type(price) is not int or price < 1 or not 1 <= len(words) <= 3:
        return False
    return all(type(word) is tuple and 1 <= len(word) <= 3 and all(
        type(part) is str and 1 <= len(part) <= 8 and all("a" <= sign <= "z" for sign in part) for part in word)
        for word in words) and len(set(words)) == len(words)


def random_offers(chance, most=4):
    """A book and rows of offers, with few choices."""
    sayings = [Saying(some_words(chance, "fg", 1, 2, 2), some_words(chance, "fg", 1, 2, 2))
               for _ in range(chance.randint(0, 3))]
    rows = []
    for saying in sayings:
        held, row = [saying.triggers()], []
        for _ in range(chance.randint(0, 3)):
            words = some_words(chance, "fgh", 1, 3, 3)
            told = sorted(words, key=lambda word: (len(word), word))
            if told not in held:
                held.append(told)
                row.append((words, chance.randint(1, most)))
        rows.append(row)
    return Book(sayings), rows if chance.random() < 0.9 or not sayings else []


class OffersTest(unittest.TestCase, Checks):

    def test_examples(self):
        self.assert_same(len(OFFERS), 6)
        self.assert_same(list(OFFERS.choices()), [(0, 0), (0, 1), (1, 0), (0, 2), (1, 1), (1, 2)])
        self.assert_same([OFFERS.price(choice) for choice in OFFERS.choices()], [0, 1, 2, 3, 3, 5])
        self.assertEqual(OFFERS.book, BOOK)
        self.assertEqual(OFFERS.chosen((0, 0)), BOOK)
        self.assertEqual(OFFERS.chosen((1, 2)), Book([UP.with_triggers([("f", "f")]), BACK.with_triggers([("f", "g")])]))
        self.assert_same([OFFERS.row(0, 0), OFFERS.row(0, 1), OFFERS.row(1, 1), OFFERS.row(number=1, k=2)],
                         [[("f",)], [("f", "f")], [("g", "g")], [("f", "g")]])

    def test_nothing_is_offered(self):
        for rows in ([], ()):
            offers = Offers(BOOK, rows)
            self.assert_same([len(offers), list(offers.choices()), offers.price((0, 0))], [1, [(0, 0)], 0])
            self.assertEqual(offers.chosen((0, 0)), BOOK)
            empty = Offers(book=Book(), rows=rows)
            self.assert_same([len(empty), list(empty.choices()), empty.price(()), () in empty], [1, [()], 0, True])
            self.assertEqual(empty.chosen(()), Book())
        self.assert_same([len(Offers(BOOK)), len(Offers(BOOK, [[], []])), len(Offers(BOOK, ((), [])))], [1, 1, 1])
        self.assert_same(len(Offers(BOOK, [[], ROWS[1]])), 3)

    def test_tuples_are_taken_as_lists(self):
        told = tuple(tuple((tuple(words), price) for words, price in row) for row in ROWS)
        self.assert_same(list(Offers(BOOK, told).choices()), list(OFFERS.choices()))

    def test_rows_are_told_in_order(self):
        offers = Offers(Book([UP]), [[([("g", "f"), ("g",), ("f",)], 1)]])
        self.assert_same(offers.row(0, 1), [("f",), ("g",), ("g", "f")])
        self.assertEqual(offers.chosen((1,)), Book([UP.with_triggers([("f",), ("g",), ("g", "f")])]))

    def test_equal_prices(self):
        offers = Offers(Book([UP, BACK, UP]), [[([("g",)], 2), ([("g", "g")], 1)], [([("f",)], 1)], [([("g",)], 1)]])
        rows = [((0, 0, 0), 0), ((0, 0, 1), 1), ((0, 1, 0), 1), ((2, 0, 0), 1), ((0, 1, 1), 2), ((1, 0, 0), 2),
                ((2, 0, 1), 2), ((2, 1, 0), 2), ((1, 0, 1), 3), ((1, 1, 0), 3), ((2, 1, 1), 3), ((1, 1, 1), 4)]
        self.assert_same([(choice, offers.price(choice)) for choice in offers.choices()], rows)

    def test_great_prices(self):
        offers = Offers(Book([UP, UP]), [[([("g",)], 10 ** 49)], [([("g",)], 10 ** 49 + 1)]])
        self.assert_same(offers.price((1, 1)), 2 * 10 ** 49 + 1)
        self.assert_same(list(offers.choices()), [(0, 0), (1, 0), (0, 1), (1, 1)])

    def test_random_ones(self):
        chance = random.Random(81)
        for _ in range(200):
            book, rows = random_offers(chance)
            before = repr(book), repr(rows)
            offers = Offers(book, rows)
            told = [[(saying.triggers(), 0)] + (rows[number] if rows else []) for number, saying in enumerate(book.sayings())]
            choices = list(itertools.product(*[range(len(row)) for row in told]))
            prices = {choice: sum(told[number][k][1] for number, k in enumerate(choice)) for choice in choices}
            turn = sorted(choices, key=lambda choice: (prices[choice], choice))
            self.assert_same(list(offers.choices()), turn)
            self.assert_same(list(offers.choices()), turn)
            self.assert_same(len(offers), len(choices))
            for choice in choices[:20]:
                self.assertIs(choice in offers, True)
                self.assert_same(offers.price(choice=choice), prices[choice])
                sayings = [Saying(told[number][k][0], book[number].makes()) for number, k in enumerate(choice)]
                self.assertEqual(offers.chosen(choice=choice), Book(sayings))
                for number, k in enumerate(choice):
                    self.assert_same(offers.row(number, k), Saying(told[number][k][0], [("f",)]).triggers())
            self.assert_same((repr(book), repr(rows)), before)
            self.assertEqual(offers.book, book)

    def test_what_is_passed_is_copied(self):
        words = [("f", "f")]
        row = [(words, 2)]
        rows = [row, []]
        offers = Offers(BOOK, rows)
        words.append(("g",))
        row.append(([("g",)], 1))
        rows.clear()
        self.assert_same([len(offers), offers.row(0, 1)], [2, [("f", "f")]])
        offers.row(0, 1).clear()
        offers.row(0, 0).clear()
        self.assert_same([offers.row(0, 1), offers.row(0, 0)], [[("f", "f")], [("f",)]])

    def test_what_is_a_choice(self):
        values = any_values() + [(0, 0), (1, 2), (0, 3), (2, 0), (0, -1), (0,), (0, 0, 0), [0, 0], (True, 0), (0, False),
                                 (True, True), ("0", "0"), (0, None), (0, (0,)), 0, "00", {0: 0}, (10 ** 40, 0), (1, 1)]
        choices = [(0, 0), (0, 1), (0, 2), (1, 0), (1, 1), (1, 2)]
        for value in values:
            right = type(value) is tuple and all(type(part) is int for part in value) and value in choices
            self.assertIs(value in OFFERS, right, value)
            if not right:
                self.assert_invalid(InvalidChoice, value, OFFERS.price, value)
                self.assert_invalid(InvalidChoice, value, OFFERS.chosen, value)
                self.assert_invalid(InvalidChoice, value, OFFERS.chosen, choice=value)

    def test_wrong_rows(self):
        for value in no_lists() + [[ROWS[0]], ROWS + [[]], [[], [], []], (ROWS[0],)]:
            self.assert_raises(InvalidOffers, {"position": None}, Offers, BOOK, value)
            self.assert_raises(InvalidOffers, {"position": None}, Offers, BOOK, rows=value)
        self.assert_raises(InvalidOffers, {"position": None}, Offers, Book(), [[]])
        for value in no_lists():
            self.assert_raises(InvalidOffers, {"position": 0}, Offers, BOOK, [value, ROWS[1]])
            self.assert_raises(InvalidOffers, {"position": 1}, Offers, BOOK, [ROWS[0], value])
            self.assert_raises(InvalidOffers, {"position": 0}, Offers, BOOK, [value, value])
        for value in no_offered():
            self.assert_raises(InvalidOffers, {"position": 0}, Offers, BOOK, [[value], ROWS[1]])
            self.assert_raises(InvalidOffers, {"position": 1}, Offers, BOOK, [ROWS[0], ROWS[1] + [value]])
            self.assert_raises(InvalidOffers, {"position": 1}, Offers, BOOK, [[], [value, None]])
            self.assert_raises(InvalidOffers, {"position": 0}, Offers, BOOK, [[([("x",)], 1), value], [value]])

    def test_rows_with_the_same_words(self):
        fall = Book([Saying([("g", "f"), ("f",)], [("h",)])])
        for words in ([("g", "f"), ("f",)], [("f",), ("g", "f")]):
            # A saying's own words, in any sequence.
            self.assert_raises(InvalidOffers, {"position": 0}, Offers, fall, [[(words, 1)]])
            self.assert_raises(InvalidOffers, {"position": 0}, Offers, fall, [[([("f",)], 1), (words, 7)]])
        one, another = [("f",), ("g",)], [("g",), ("f",)]
        for words in (one, another):
            self.assert_raises(InvalidOffers, {"position": 0}, Offers, fall, [[(one, 1), (words, 2)]])
            self.assert_raises(InvalidOffers, {"position": 1}, Offers, BOOK, [[(one, 1)], [(another, 1), (words, 1)]])
        # Those of another saying do not count, and a beginning makes another word.
        self.assert_same(len(Offers(BOOK, [[([("g",)], 1)], [([("f",)], 1)]])), 4)
        self.assert_same(len(Offers(BOOK, [[(one, 1)], [(one, 1)]])), 4)
        self.assert_same(len(Offers(fall, [[([("g", "f"), ("f",), ("g",)], 1), ([("g", "f")], 1)]])), 3)

    def test_four_letters(self):
        self.assert_too_many("letters", 3, Offers, BOOK, [[([("h", "x")], 1)], []])
        self.assert_too_many("letters", 3, Offers, BOOK, [[([("h",)], 1)], [([("x",)], 1)]])
        self.assert_same(len(Offers(BOOK, [[([("h",)], 1)], [([("g", "h")], 1)]])), 4)
        three = Book([Saying([("f",)], [("g", "h")])])
        self.assert_too_many("letters", 3, Offers, three, [[([("x",)], 1)]])
        self.assert_too_many("letters", 3, Offers, Book([Saying([("f",)], [("g",)])]), [[([("x", "y")], 1)]])
        # Also where the letters of a saying's own triggers are not in a changed book.
        self.assert_too_many("letters", 3, Offers, Book([Saying([("f",), ("h",)], [("g",)])]), [[([("x",)], 1)]])

    def test_sixty_choices(self):
        words = [[word] for word in itertools.product("fg", repeat=3)] + [
            [word] for word in itertools.product("fgh", repeat=2)] + [[("h",)], [("f",), ("h",)]] + [
            [("f", "f"), word] for word in itertools.product("fgh", repeat=3)] + [
            [("f", "g"), word] for word in itertools.product("fgh", repeat=3)]

        def rows(*many):
            return [[(told, 1) for told in words[:number]] for number in many]
        book = Book([Saying([("f",)], [("g",)])] * 3)
        self.assert_same(len(Offers(Book([UP]), rows(59))), 60)
        self.assert_same(len(list(Offers(Book([UP]), rows(59)).choices())), 60)
        self.assert_same(len(Offers(book, rows(3, 2, 4))), 60)
        self.assert_same(len(Offers(Book([UP] * 6), rows(1, 1, 1, 1, 1, 0))), 32)
        self.assert_too_many("choices", 60, Offers, Book([UP]), rows(60))
        for many in [(60, 0, 0), (3, 2, 5), (3, 3, 3), (7, 7, 0), (30, 30, 30)]:
            self.assert_too_many("choices", 60, Offers, book, rows(*many))
        self.assert_too_many("choices", 60, Offers, Book([UP] * 6), rows(1, 1, 1, 1, 1, 1))
        self.assert_too_many("choices", 60, Offers, Book([UP] * 6), rows(40, 40, 40, 40, 40, 40))

    def test_which_error_is_due_first(self):
        many = [[([(one, two, three)], 1) for one in "xyz" for two in "xyz" for three in "xyz"],
                [([("x", one, two)], 1) for one in "xy" for two in "xyz"]]
        self.assert_too_many("letters", 3, Offers, BOOK, many)
        self.assert_raises(InvalidOffers, {"position": 1}, Offers, BOOK, [many[0], many[1] + [None]])
        self.assert_invalid(InvalidBook, None, Offers, None, None)
        self.assert_invalid(InvalidBook, "f", Offers, rows=many, book="f")

    def test_wrong_parameters(self):
        rows = [(value, InvalidOffers, {"position": None}) for value in no_lists()]
        self.assert_parameters(Offers, {"book": BOOK, "rows": ROWS}, {"book": no_books(), "rows": rows})
        numbers = [value for value in any_values() + [2, -2, 10 ** 40] if type(value) is not int or not 0 <= value < 2]
        self.assert_parameters(OFFERS.row, {"number": 0, "k": 1}, {
            "number": wrong(InvalidNumber, numbers), "k": wrong(InvalidNumber, numbers)})
        self.assert_same(OFFERS.row(1, 2), [("f", "g")])
        self.assert_invalid(InvalidNumber, 3, OFFERS.row, 1, 3)
        self.assert_invalid(InvalidNumber, True, OFFERS.row, 1, True)
        self.assert_invalid(InvalidNumber, False, OFFERS.row, False, 9)

    def test_choices_is_a_generator(self):
        generator = OFFERS.choices()
        self.assert_same([next(generator), next(generator)], [(0, 0), (0, 1)])
        self.assertIs(iter(generator), generator)

    def test_the_book_is_only_read(self):
        self.assertIsInstance(error_of(setattr, OFFERS, "book", BOOK), AttributeError)


if __name__ == "__main__":
    unittest.main()
