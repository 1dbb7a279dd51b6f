"""Finding, its papers, needless sayings and least sets: [2], [4], [71] to [73]."""

import random
import unittest

from helping import (
    BACK, FAR, INWARD, LOOP, MANY, OUTWARD, UP, Checks, any_values, changed_part, no_books, no_lists, plain_lines,
    plain_list, plain_word, random_book, random_short_book, some_books, some_webs, some_words,
)
from naive import first_wrong, is_shown, least_of, missed_of
from wakesayings.books import Book
from wakesayings.errors import TooMany
from wakesayings.finding import (
    alike, finding_paper, finds_all, first_missed, is_finding_paper, is_missing_paper, least_sets, missing_paper, needless,
)
from wakesayings.fronts import Front
from wakesayings.making import end_of
from wakesayings.sayings import Saying
from wakesayings.tables import table_of
from wakesayings.webs import Web

TWO = Book([Saying([("f",)], [("g",)]), Saying([("g",)], [("h",)])])
ONE = Book([Saying([("f",)], [("h",)])])
THREE = Book(TWO.sayings() + ONE.sayings())
BEGIN = Front([("f",)])
LINES = [(BEGIN, ("f",), "told"), (BEGIN, ("g",), 0), (BEGIN, ("h",), 1)]
TABLE = [(BEGIN, Front([("f",), ("h",)])), (Front(), Front())]


def some_pairs(many=50):
    """Pairs of books of which the one often finds all that the other one finds."""
    chance = random.Random(71)
    rows = [(book, other) for book in some_books() for other in some_books()]
    for _ in range(many):
        book = random_short_book(chance)
        other = random_short_book(chance)
        rows += [(book, other), (book | other, other), (book, book.without(0)), (random_book(chance), book)]
    return rows


def is_finding(book, other, value):
    """Whether a value is a finding paper, in plain words."""
    if not plain_list(value) or len(value) != len(other):
        return False
    for saying, lines in zip(other.sayings(), value):
        if not plain_lines(lines) or first_wrong(book, lines) is not None:
            return False
        for make in saying.makes():
            if not any(front == saying.trigger_front() and word == make for front, word, _ in lines):
                return False
    return True


def is_missing(book, other, value):
    """Whether a value is a missing paper, in plain words."""
    if type(value) is not tuple or len(value) != 3 or type(value[0]) is not int or not 0 <= value[0] < len(other):
        return False
    number, make, table = value
    if not plain_word(make) or make not in other[number].makes() or not plain_list(table):
        return False
    if not all(type(row) is tuple and len(row) == 2 and all(isinstance(part, Front) for part in row) for row in table):
        return False
    return is_shown(book, other[number].trigger_front(), make, table)


class FindingTest(unittest.TestCase, Checks):

    def test_examples(self):
        self.assert_same([finds_all(TWO, ONE), first_missed(TWO, ONE)], [True, None])
        self.assert_same([finds_all(ONE, TWO), first_missed(ONE, TWO)], [False, (0, ("g",))])
        self.assert_same([alike(ONE, TWO), alike(TWO, ONE), alike(TWO, THREE), alike(THREE, TWO)],
                         [False, False, True, True])

    def test_empty_books(self):
        for book in some_books():
            self.assert_same([finds_all(book, Book()), first_missed(book, Book()), finding_paper(book, Book())],
                             [True, None, []])
            self.assertIs(finds_all(Book(), book), missed_of(Book(), book) is None)
        self.assert_same([alike(Book(), Book()), needless(Book()), least_sets(Book())], [True, [], [[]]])
        # What is told is found without any saying.
        idle = Book([Saying([("f", "g")], [("f",), ("f", "g")])])
        self.assert_same([finds_all(Book(), idle), alike(Book(), idle), needless(idle), least_sets(idle)],
                         [True, True, [0], [[]]])

    def test_the_first_missed_one(self):
        other = Book([Saying([("f",)], [("g",)]), Saying([("g",)], [("h", "g"), ("g", "g", "g"), ("g", "f"), ("g", "h")][:3]),
                      Saying([("h",)], [("f",)])])
        self.assert_same(first_missed(Book(), other), (0, ("g",)))
        self.assert_same(first_missed(Book([other[0]]), other), (1, ("g", "f")))
        self.assert_same(first_missed(Book([other[0], Saying([("g",)], [("g", "f")])]), other), (1, ("h", "g")))
        self.assert_same(first_missed(Book(other.sayings()[:2]), other), (2, ("f",)))

    def test_books_that_go_on(self):
        growing = Book([LOOP])
        self.assert_same([finds_all(growing, Book([Saying([("g",)], [("f", "f", "f")])])),
                          first_missed(growing, Book([Saying([("g",)], [("f", "f", "f"), ("g", "f")])]))],
                         [True, (0, ("g", "f"))])
        self.assertIs(finds_all(Book([UP]), growing), False)

    def test_as_the_plain_words_say(self):
        told = {True: 0, False: 0}
        for book, other in some_pairs():
            before = repr(book), repr(other)
            missed = missed_of(book, other)
            self.assertIs(finds_all(book, other), missed is None)
            self.assertIs(finds_all(other=other, book=book), missed is None)
            self.assert_same(first_missed(book, other), missed)
            self.assert_same(first_missed(other=other, book=book), missed)
            self.assertIs(alike(book, other), missed is None and missed_of(other, book) is None)
            self.assertIs(alike(other=other, book=book), alike(other, book))
            self.assert_same((repr(book), repr(other)), before)
            told[missed is None] += 1
        self.assertGreater(min(told.values()), 100)

    def test_from_webs(self):
        seen = 0
        webs = some_webs()
        for book, other in some_pairs(30):
            if finds_all(book, other):
                for web in webs[::3]:
                    try:
                        mine, its = end_of(book, web), end_of(other, web)
                    except TooMany:
                        continue
                    seen += len(its) > len(web)
                    self.assertTrue(all(term in mine for term in its.knots()))
                    self.assertEqual(end_of(other, mine), mine)
            else:
                number, make = first_missed(book, other)
                try:
                    mine = end_of(book, Web.of(other[number].trigger_front()))
                except TooMany:
                    continue
                self.assertNotIn(("x", *make), mine)
        self.assertGreater(seen, 50)

    def test_wrong_parameters(self):
        rows = {"book": no_books(), "other": no_books()}
        good = {"book": ONE, "other": TWO}
        for action in (finds_all, first_missed, alike, finding_paper, missing_paper):
            self.assert_parameters(action, good, rows)
        for action in (is_finding_paper, is_missing_paper):
            for value in ([LINES], (0, ("g",), TABLE), None):
                self.assert_parameters(action, dict(good, value=value), rows)
        for action in (needless, least_sets):
            self.assert_parameters(action, {"book": ONE}, rows)


class FindingPaperTest(unittest.TestCase, Checks):

    def test_told_ones(self):
        for book, other in some_pairs():
            paper = finding_paper(book, other)
            self.assertIs(paper is None, missed_of(book, other) is not None)
            if paper is not None:
                self.assert_same([type(row) for row in [paper, *paper]], [list] * (len(other) + 1))
                self.assertTrue(is_finding(book, other, paper))
                self.assertIs(is_finding_paper(book, other, paper), True)
                self.assertIs(is_finding_paper(value=tuple(map(tuple, paper)), other=other, book=book), True)
                self.assert_same(finding_paper(other=other, book=book), paper)

    def test_example(self):
        self.assertIs(is_finding_paper(TWO, ONE, [LINES]), True)
        self.assertIs(is_finding_paper(TWO, ONE, ([*LINES, (Front(), (), "told")],)), True)
        self.assertIs(is_finding_paper(TWO, Book(), []), True)
        self.assertIs(is_finding_paper(TWO, Book(), ()), True)
        for at in range(len(LINES)):
            self.assertIs(is_finding_paper(TWO, ONE, [LINES[:at] + LINES[at + 1:]]), False)
        for value in ([], [LINES, LINES], [LINES, []], [[]], LINES, [LINES[::-1]], [LINES[:2]], [[*LINES, None]]):
            self.assertIs(is_finding_paper(TWO, ONE, value), False)
        self.assertIs(is_finding_paper(TWO, Book(), [[]]), False)
        # A line with another front does not count.
        wide = Front([("f",), ("h",)])
        self.assertIs(is_finding_paper(TWO, ONE, [[(wide, ("h",), "told")]]), False)
        self.assertIs(is_finding_paper(ONE, ONE, [[(BEGIN, ("f",), "told"), (BEGIN, ("h",), 0)]]), True)
        self.assertIs(is_finding_paper(ONE, ONE, [LINES]), False)

    def test_each_make_and_each_saying(self):
        other = Book([Saying([("f",)], [("g",), ("h",)]), Saying([("g",)], [("h",)])])
        near = Front([("g",)])
        more = [(near, ("g",), "told"), (near, ("h",), 1)]
        self.assertIs(is_finding_paper(TWO, other, [LINES, more]), True)
        for value in ([more, LINES], [LINES[:2], more], [LINES, more[:1]], [LINES], [LINES + more], [LINES, LINES]):
            self.assertIs(is_finding_paper(TWO, other, value), False)
        # Lines in one list do not help another one.
        self.assertIs(is_finding_paper(TWO, other, [LINES + more, more[1:]]), False)

    def test_what_is_none(self):
        for value in any_values() + no_lists():
            self.assertIs(is_finding_paper(TWO, ONE, value), False)
            self.assertIs(is_finding_paper(TWO, Book(), value), value in ([], ()))
            self.assertIs(is_finding_paper(TWO, ONE, [value]), False)
            told = [(BEGIN, ("f",), "told"), value] + LINES[1:]
            self.assertIs(is_finding_paper(TWO, ONE, [told]), type(value) is tuple and value == (Front(), (), "told"))

    def test_changed_ones(self):
        chance = random.Random(72)
        told = {True: 0, False: 0}
        for book, other in some_pairs():
            paper = finding_paper(book, other)
            for _ in range(5 if paper else 0):
                changed = changed_part(chance, paper)
                right = is_finding(book, other, changed)
                self.assertIs(is_finding_paper(book, other, changed), right, changed)
                told[right] += 1
        self.assertGreater(min(told.values()), 100)

    def test_none_where_a_make_is_missed(self):
        chance = random.Random(73)
        for book, other in some_pairs():
            if missed_of(book, other) is not None:
                told = finding_paper(book | other, other) if len(book) + len(other) <= 6 else [LINES] * len(other)
                self.assertIs(is_finding_paper(book, other, told), False)
                self.assertIs(is_finding_paper(book, other, changed_part(chance, told)), False)

    def test_returned_lists_are_new(self):
        finding_paper(TWO, ONE)[0].clear()
        finding_paper(TWO, ONE).clear()
        self.assertIs(is_finding_paper(TWO, ONE, finding_paper(TWO, ONE)), True)
        told = [list(LINES)]
        is_finding_paper(TWO, ONE, told)
        self.assert_same(told, [LINES])


class MissingPaperTest(unittest.TestCase, Checks):

    def test_told_ones(self):
        for book, other in some_pairs():
            paper = missing_paper(book, other)
            self.assertIs(paper is None, missed_of(book, other) is None)
            self.assertIs(paper is None, finding_paper(book, other) is not None)
            if paper is not None:
                self.assert_same([type(part) for part in paper], [int, tuple, list])
                self.assertTrue(is_missing(book, other, paper))
                self.assertIs(is_missing_paper(book, other, paper), True)
                self.assertIs(is_missing_paper(value=(*paper[:2], tuple(paper[2])), other=other, book=book), True)
                self.assert_same(missing_paper(other=other, book=book), paper)

    def test_any_make_that_is_missed(self):
        # It need not be the first one.
        other = Book([Saying([("f",)], [("g",), ("f", "g"), ("h",)]), Saying([("g",)], [("h",)])])
        for number, saying in enumerate(other.sayings()):
            for make in [("g",), ("f", "g"), ("h",), ("f",), ()]:
                paper = (number, make, table_of(ONE, saying.trigger_front()))
                right = make in saying.makes() and (number, make) != (0, ("h",))
                self.assertIs(is_missing_paper(ONE, other, paper), right)

    def test_example(self):
        paper = (0, ("g",), TABLE)
        self.assertIs(is_missing_paper(ONE, TWO, paper), True)
        for value in [(1, ("g",), TABLE), (True, ("g",), TABLE), (False, ("g",), TABLE), (-2, ("g",), TABLE),
                      (2, ("g",), TABLE), ("0", ("g",), TABLE), (None, ("g",), TABLE), (0, ("h",), TABLE),
                      (0, ["g"], TABLE), (0, "g", TABLE), (0, ("g",), TABLE[:1]), (0, ("g",), []), (0, ("g",), None),
                      (0, ("g",), TABLE[1:]), [0, ("g",), TABLE], paper[:2], paper + (0,), (paper,)]:
            self.assertIs(is_missing_paper(ONE, TWO, value), False)
        self.assertIs(is_missing_paper(ONE, Book(), paper), False)
        self.assertIs(is_missing_paper(TWO, TWO, paper), False)

    def test_what_is_none(self):
        for value in any_values():
            self.assertIs(is_missing_paper(ONE, TWO, value), False)
            self.assertIs(is_missing_paper(ONE, TWO, (value, ("g",), TABLE)), value == 0 and value is not False)
            self.assertIs(is_missing_paper(ONE, TWO, (0, value, TABLE)), value == ("g",))
            self.assertIs(is_missing_paper(ONE, TWO, (0, ("g",), value)), False)
            self.assertIs(is_missing_paper(ONE, TWO, (0, ("g",), TABLE + [value])), value == (Front(), Front()))

    def test_changed_ones(self):
        chance = random.Random(74)
        told = {True: 0, False: 0}
        for book, other in some_pairs():
            paper = missing_paper(book, other)
            for _ in range(5 if paper else 0):
                changed = changed_part(chance, paper)
                right = is_missing(book, other, changed)
                self.assertIs(is_missing_paper(book, other, changed), bool(right), changed)
                told[bool(right)] += 1
        self.assertGreater(min(told.values()), 100)

    def test_returned_lists_are_new(self):
        missing_paper(ONE, TWO)[2].clear()
        self.assertIs(is_missing_paper(ONE, TWO, missing_paper(ONE, TWO)), True)


class NeedlessTest(unittest.TestCase, Checks):

    def test_examples(self):
        self.assert_same([needless(THREE), least_sets(THREE)], [[2], [[0, 1]]])
        self.assert_same([needless(TWO), least_sets(TWO)], [[], [[0, 1]]])

    def test_equal_sayings_make_one_another_needless(self):
        self.assert_same([needless(Book([UP, UP])), least_sets(Book([UP, UP]))], [[0, 1], [[0], [1]]])
        self.assert_same(least_sets(Book([UP, BACK, UP, UP])), [[0, 1], [1, 2], [1, 3]])
        self.assert_same(needless(Book([UP, BACK, UP, UP])), [0, 2, 3])
        self.assert_same(least_sets(Book([UP] * 6)), [[number] for number in range(6)])
        self.assert_same(needless(Book([UP] * 6)), list(range(6)))

    def test_several_least_sets(self):
        # Around f, g and h in both ways.
        f, g, h = ("f",), ("g",), ("h",)
        book = Book([Saying([f], [g]), Saying([g], [h]), Saying([h], [f]), Saying([g], [f]), Saying([h], [g]),
                     Saying([f], [h])])
        self.assert_same(needless(book), [0, 1, 2, 3, 4, 5])
        self.assert_same(least_sets(book), least_of(book))
        self.assert_same(least_sets(book), [[0, 1, 2], [3, 4, 5], [0, 1, 3, 4], [0, 2, 3, 5], [1, 2, 4, 5]])

    def test_sets_that_are_no_least_ones(self):
        wide = Book([Saying([("f",)], [("g",), ("h",)]), Saying([("f",)], [("g",)]), Saying([("f",)], [("h",)])])
        self.assert_same([needless(wide), least_sets(wide)], [[0, 1, 2], [[0], [1, 2]]])

    def test_sayings_that_find_nothing(self):
        idle = Saying([("f", "g")], [("f",)])
        self.assert_same([needless(Book([UP, idle])), least_sets(Book([UP, idle]))], [[1], [[0]]])
        self.assert_same([needless(Book([idle, idle])), least_sets(Book([idle, idle]))], [[0, 1], [[]]])

    def test_as_the_plain_words_say(self):
        chance = random.Random(75)
        books = some_books() + [Book([FAR, INWARD, OUTWARD, UP, BACK, MANY])]
        books += [random_short_book(chance) | random_short_book(chance) for _ in range(30)]
        books += [random_book(chance, 5) for _ in range(10)]
        books += [Book([Saying(some_words(chance, "fgh", 1, 1, 2), some_words(chance, "fgh", 1, 1, 2))
                        for _ in range(5)]) for _ in range(60)]
        several = 0
        for book in books:
            before = repr(book)
            told = [number for number in range(len(book)) if missed_of(book.without(number), book) is None]
            self.assert_same(needless(book), told)
            self.assert_same(needless(book=book), told)
            self.assert_same(least_sets(book), least_of(book))
            self.assert_same(least_sets(book=book), least_of(book))
            for numbers in least_sets(book):
                self.assertIs(alike(book.kept(numbers), book), True)
                self.assert_same(needless(book.kept(numbers)), [])
            several += len(least_sets(book)) > 1
            self.assertEqual(repr(book), before)
        self.assertGreater(several, 10)

    def test_returned_lists_are_new(self):
        least_sets(TWO)[0].clear()
        least_sets(TWO).clear()
        needless(THREE).clear()
        self.assert_same([least_sets(TWO), needless(THREE)], [[[0, 1]], [2]])


if __name__ == "__main__":
    unittest.main()
