"""Books: [2], [22]."""

import itertools
import unittest

from helping import BACK, UP, Checks, any_values, no_books, no_lists, no_numbers, no_sayings, some_books
from wakesayings.books import Book
from wakesayings.errors import InvalidBook, InvalidNumber, InvalidSaying, InvalidSayings
from wakesayings.fronts import Front
from wakesayings.sayings import Saying


def saying_of(*letters):
    """A saying with just these letters, one to four."""
    words = [(letter,) for letter in letters]
    return Saying(words[:2], words[2:] or words[:1])


FG, GH, H, FGH, IJ, FGHI = (saying_of(*word) for word in ("fg", "gh", "h", "fgh", "ij", "fghi"))


class MakingTest(unittest.TestCase, Checks):

    def test_sayings_in_sequence(self):
        for sayings in [[], [UP], [UP, BACK], [BACK, UP], [UP, BACK, UP], [UP] * 6, [H, FG, GH, FGH, H, FG]]:
            self.assert_same(Book(sayings).sayings(), sayings)
            self.assert_same(Book(tuple(sayings)).sayings(), sayings)
            self.assert_same(Book(sayings=sayings).sayings(), sayings)
            self.assert_same(len(Book(sayings)), len(sayings))

    def test_nothing_told(self):
        self.assert_same([Book().sayings(), len(Book())], [[], 0])

    def test_class_values(self):
        self.assert_same([Book.MOST_SAYINGS, Book.MOST_LETTERS], [6, 3])
        self.assert_same([Book().MOST_SAYINGS, Book().MOST_LETTERS], [6, 3])

    def test_no_list(self):
        for value in no_lists():
            self.assert_raises(InvalidSayings, {"position": None}, Book, value)
            self.assert_raises(InvalidSayings, {"position": None}, Book, sayings=value)

    def test_first_that_is_no_saying(self):
        for value, _, _ in no_sayings():
            for at in range(4):
                told = [UP, BACK, UP, UP]
                told[at] = value
                self.assert_raises(InvalidSayings, {"position": at}, Book, told)
                self.assert_raises(InvalidSayings, {"position": at}, Book, tuple(told) + (None, Book()))
        self.assert_raises(InvalidSayings, {"position": 8}, Book, [UP, FGHI] * 4 + [None])

    def test_six_and_seven_sayings(self):
        self.assert_same(len(Book([UP, BACK] * 3)), 6)
        for sayings in [[UP] * 7, [UP, BACK] * 4, [FGHI] * 7, [FG, IJ] * 4]:
            self.assert_too_many("sayings", 6, Book, sayings)
            self.assert_too_many("sayings", 6, Book, tuple(sayings))

    def test_three_and_four_letters(self):
        self.assert_same(len(Book([FG, GH, FGH])), 3)
        for sayings in [[FGHI], [FG, IJ], [UP, GH, saying_of("i")], [UP, Saying([("h",)], [("i",)])], [FG, IJ] * 3,
                        [Saying([("f", "g", "h")], [("i",)])], [Saying([("f",)], [("g", "h"), ("f", "f", "ff")])]]:
            self.assert_too_many("letters", 3, Book, sayings)

    def test_what_is_passed_is_copied(self):
        told = [UP, BACK]
        book = Book(told)
        self.assert_same(told, [UP, BACK])
        told.append(UP)
        told[0] = None
        self.assert_same(book.sayings(), [UP, BACK])


class LookingTest(unittest.TestCase, Checks):

    def test_items(self):
        book = Book([UP, BACK, UP])
        self.assert_same([book[0], book[1], book[2]], [UP, BACK, UP])

    def test_no_numbers(self):
        for book in [Book(), Book([UP]), Book([UP, BACK, UP])]:
            for value, kind, parts in no_numbers(len(book)):
                self.assert_raises(kind, parts, lambda x: book[x], value)
        self.assert_raises(InvalidNumber, {"value": slice(0, 1)}, lambda: Book([UP, UP])[0:1])

    def test_not_iterated(self):
        with self.assertRaises(TypeError):
            list(Book([UP]))

    def test_in(self):
        book = Book([UP, BACK])
        self.assertIs(UP in book, True)
        self.assertIs(Saying((("g",),), (("g", "f"),)) in book, True)
        self.assertIs(FG in book, False)
        self.assertIs(UP in Book(), False)
        for value in any_values():
            self.assertIs(value in book, False, value)

    def test_letters(self):
        book = Book([Saying([("h",)], [("g", "f")]), UP])
        self.assert_same([book.letters(), book.make_letters()], [["f", "g", "h"], ["f", "g"]])
        self.assert_same([Book().letters(), Book().make_letters()], [[], []])
        self.assert_same(Book([FGH]).letters(), ["f", "g", "h"])

    def test_returned_lists_are_new(self):
        book = Book([UP, BACK])
        for method in (book.sayings, book.letters, book.make_letters):
            before = method()
            method().append(None)
            method().clear()
            self.assert_same(method(), before)
        self.assert_same(len(book), 2)

    def test_full_front(self):
        self.assert_same(Book().full_front(), Front())
        rows = [
            ([Saying([("f", "g", "h")], [("f",)])], Front()),
            ([UP], Front([("f",), ("g",)])),
            ([UP, saying_of("h")], Front([("f",), ("g",), ("h",)])),
            ([Saying([("h",)], [("g",), ("f", "f", "f")])], Front.full(["f", "g"], 2)),
            ([Saying([("f", "f", "f")], [("g", "g")])], Front([("g",)])),
            ([Saying([("f",)], [("f", "g", "h")]), UP], Front.full(["f", "g", "h"], 2)),
        ]
        for sayings, front in rows:
            self.assert_same(Book(sayings).full_front(), front)

    def test_repr(self):
        self.assert_same(repr(Book([UP])), "Book([Saying([('f',)], [('f', 'g')])])")
        self.assert_same(repr(Book()), "Book([])")
        self.assert_same(repr(Book([BACK, UP])),
                         "Book([Saying([('g',)], [('g', 'f')]), Saying([('f',)], [('f', 'g')])])")
        for book in some_books():
            self.assertTrue(eval(repr(book)) == book)


class JoiningTest(unittest.TestCase, Checks):

    def test_one_saying_more(self):
        book = Book([UP])
        more = book + BACK
        self.assert_same([book.sayings(), more.sayings(), (more + UP).sayings()], [[UP], [UP, BACK], [UP, BACK, UP]])
        self.assert_same(Book() + FGH, Book([FGH]))

    def test_a_new_object_for_the_name(self):
        book = held = Book([UP])
        book += BACK
        self.assert_same([held, book], [Book([UP]), Book([UP, BACK])])
        book |= Book([H])
        self.assert_same([held, book], [Book([UP]), Book([UP, BACK, H])])

    def test_no_saying(self):
        for value, kind, parts in no_sayings():
            for book in [Book(), Book([UP]), Book([UP] * 6)]:
                self.assert_raises(kind, parts, lambda x: book + x, value)

    def test_too_many_by_one_more(self):
        self.assert_same(len(Book([UP] * 5) + BACK), 6)
        self.assert_too_many("sayings", 6, lambda: Book([UP] * 6) + UP)
        self.assert_too_many("sayings", 6, lambda: Book([UP] * 6) + FGHI)
        self.assert_too_many("letters", 3, lambda: Book([UP] * 5) + IJ)
        self.assert_too_many("letters", 3, lambda: Book() + FGHI)

    def test_with_another_book(self):
        rows = [
            ([], [], []), ([UP], [], [UP]), ([], [UP, UP], [UP, UP]), ([UP], [UP, UP], [UP]),
            ([UP, UP], [BACK, UP, BACK], [UP, UP, BACK, BACK]), ([UP, BACK], [H, BACK, FG], [UP, BACK, H, FG]),
            ([UP], [Saying([("f",), ("f", "g")], [("f", "g")])], [UP, Saying([("f",), ("f", "g")], [("f", "g")])]),
        ]
        for one, another, both in rows:
            book, other = Book(one), Book(another)
            self.assert_same((book | other).sayings(), both)
            self.assert_same([book.sayings(), other.sayings()], [one, another])

    def test_no_book(self):
        for value, kind, parts in no_books():
            for book in [Book(), Book([UP])]:
                self.assert_raises(kind, parts, lambda x: book | x, value)
        self.assert_raises(InvalidBook, {"value": UP}, lambda: Book([UP]) | UP)
        self.assert_raises(InvalidSaying, {"value": Book([UP])}, lambda: Book([UP]) + Book([UP]))

    def test_too_many_by_another_book(self):
        self.assert_same(len(Book([UP, FG, H]) | Book([BACK, GH, FGH, UP, H])), 6)
        self.assert_too_many("sayings", 6, lambda: Book([UP] * 4) | Book([BACK] * 3))
        self.assert_too_many("sayings", 6, lambda: Book([UP] * 4) | Book([IJ] * 3))
        self.assert_too_many("letters", 3, lambda: Book([UP]) | Book([IJ]))
        self.assert_same(len(Book([UP] * 6) | Book([UP] * 6)), 6)


class PartsTest(unittest.TestCase, Checks):

    def test_without(self):
        book = Book([UP, BACK, UP, H])
        self.assert_same([book.without(number).sayings() for number in range(4)],
                         [[BACK, UP, H], [UP, UP, H], [UP, BACK, H], [UP, BACK, UP]])
        self.assert_same(Book([UP]).without(number=0), Book())
        self.assert_same(book.sayings(), [UP, BACK, UP, H])

    def test_kept(self):
        book = Book([UP, BACK, H, UP])
        rows = [([], []), ([0], [UP]), ([2, 0], [UP, H]), ([3, 0, 3, 0], [UP, UP]), ([3, 2, 1, 0], [UP, BACK, H, UP]),
                ([1, 1, 1], [BACK])]
        for numbers, sayings in rows:
            told = list(numbers)
            self.assert_same(book.kept(told).sayings(), sayings)
            self.assert_same(told, numbers)
            self.assert_same(book.kept(numbers=tuple(numbers)).sayings(), sayings)

    def test_kept_of_wrong_numbers(self):
        book = Book([UP, BACK, H])
        for value in no_lists():
            self.assert_invalid(InvalidNumber, None, book.kept, value)
        for value, kind, parts in no_numbers(3):
            for at in range(3):
                told = [2, 0, 2]
                told[at] = value
                self.assert_raises(kind, parts, book.kept, told)
                self.assert_raises(kind, parts, book.kept, tuple(told) + (None, True, 9))
                self.assert_raises(kind, parts, book.kept, numbers=told)

    def test_exchanged(self):
        book = Book([UP, BACK, UP])
        self.assert_same(book.exchanged(1, H).sayings(), [UP, H, UP])
        self.assert_same(book.exchanged(saying=BACK, number=2).sayings(), [UP, BACK, BACK])
        self.assert_same(book.exchanged(0, UP), book)
        self.assert_same(book.sayings(), [UP, BACK, UP])
        self.assert_same(len(Book([UP] * 6).exchanged(5, H)), 6)

    def test_letters_of_what_is_exchanged(self):
        self.assert_same(Book([FGH, H]).exchanged(0, IJ).letters(), ["h", "i", "j"])
        self.assert_too_many("letters", 3, Book([FGH, H, UP]).exchanged, 1, IJ)
        self.assert_too_many("letters", 3, Book([UP]).exchanged, 0, FGHI)

    def test_wrong_parameters(self):
        book = Book([UP, BACK])
        self.assert_parameters(book.without, {"number": 0}, {"number": no_numbers(2)})
        self.assert_parameters(book.exchanged, {"number": 0, "saying": H},
                               {"number": no_numbers(2), "saying": no_sayings()})
        self.assert_invalid(InvalidNumber, 0, Book().without, 0)
        self.assert_invalid(InvalidNumber, 0, Book().exchanged, 0, None)
        self.assert_invalid(InvalidNumber, 2, book.exchanged, 2, FGHI)


class EqualTest(unittest.TestCase, Checks):

    def test_equal_sayings_in_one_sequence(self):
        rows = [list(row) for many in range(4) for row in itertools.product([UP, BACK, H], repeat=many)]
        for one in rows:
            for another in rows:
                same = [repr(saying) for saying in one] == [repr(saying) for saying in another]
                self.assertIs(Book(one) == Book(another), same)
                self.assertIs(Book(one) != Book(another), not same)
        self.assertTrue(Book([Saying([("f",), ("g",)], [("h",)])]) == Book((Saying([("g",), ("f",)], [("h",)]),)))

    def test_equal_only_to_books(self):
        book = Book([UP])
        for value in any_values() + [book.sayings(), (UP,), UP, repr(book)]:
            self.assertIs(book == value, False)
            self.assertIs(value == book, False)
            self.assertIs(book != value, True)


if __name__ == "__main__":
    unittest.main()
