"""Ends, ranked tables, lassos, sizes and depths: [2], [4], [61] to [64]."""

import random
import unittest

from helping import (
    BACK, INWARD, LOOP, UP, Checks, all_words, any_values, changed_part, no_books, no_fronts, no_lists, plain_lasso,
    plain_ranked, random_book, random_front, random_short_book, some_books, some_webs,
)
from naive import is_lasso_one, is_ranked_one, size_and_depth
from wakesayings.books import Book
from wakesayings.coming import reached_fronts
from wakesayings.ending import ends, front_depth, front_size, is_lasso, is_ranked, lasso_of, ranked_table
from wakesayings.errors import TooMany
from wakesayings.fronts import Front
from wakesayings.lines import wrong_line
from wakesayings.making import end_of
from wakesayings.rounds import rested, rows_of
from wakesayings.sayings import Saying
from wakesayings.tables import is_table
from wakesayings.webs import Web, leads_of_web

ONE = Book([UP])
TWO = Book([UP, BACK])
GROWING = Book([LOOP])
BEGIN = Front([("f",)])
NEAR = Front([("g",)])
TABLE = [(Front(), Front(), 0), (NEAR, NEAR, 1), (BEGIN, Front([("f", "g")]), 2)]
LINES = [(NEAR, ("g",), "told"), (NEAR, ("f",), 0), (NEAR, ("f", "g"), 0)]
LASSO = ([NEAR, NEAR], ["f"], 0, LINES)

# Books with ends of many knots, each with the size and the depth of its full front.
GREAT = [
    (Book([
        Saying([("h",), ("g", "h"), ("f", "f", "g")], [("g", "h", "h"), ("h", "h", "h")]),
        Saying([("h", "g"), ("f", "h", "g")], [("g", "g", "f"), ("h", "f", "h")]),
        Saying([("f", "g")], [("g", "g", "g")]),
        Saying([("h",), ("f", "f")], [("f", "g"), ("f", "f", "g"), ("h", "f", "g")]),
        Saying([("h",), ("h", "h", "f")], [("f", "f"), ("f", "g", "h")]),
        Saying([("g",)], [("g", "f"), ("f", "f", "f")]),
    ]), 770, 11),
    (Book([
        Saying([("f", "g"), ("g", "f"), ("h", "g")], [("g", "f", "f"), ("h", "h", "g")]),
        Saying([("h",)], [("g",), ("g", "g", "g")]),
        Saying([("f",), ("g",)], [("f", "h"), ("g", "g"), ("f", "h", "g")]),
        Saying([("f",), ("h",)], [("f", "h"), ("f", "h", "f")]),
        Saying([("h", "f", "g")], [("h",), ("g", "f"), ("h", "g", "f")]),
        Saying([("h", "g"), ("f", "g", "g")], [("f", "g", "h")]),
    ]), 720, 15),
]


def some_pairs(many=60):
    """Books and fronts: the empty front, the full one, others, also with letters that the book does not have."""
    chance = random.Random(61)
    fronts = [Front(), BEGIN, NEAR, Front([("f", "g", "f"), ("h",)]), Front([("x", "f"), ("g", "y")]),
              Front([("g", "g", "g")])]
    rows = [(book, front) for book in some_books() for front in [*fronts, book.full_front()]]
    rows += [(random_book(chance, 6), random_front(chance)) for _ in range(many)]
    return rows + [(random_short_book(chance), random_front(chance, "fgx")) for _ in range(many)]


def measured(book, front):
    return size_and_depth(book, front.words())


def built(book, front, limit=400):
    """The size and the depth of the end that rounds make; None if it would have more knots than the limit."""
    try:
        leads, _ = rested(rows_of(book), leads_of_web(Web.of(front)), limit, [])
    except TooMany:
        return None
    depths = {1: 0}
    # All leads come from knots with lesser numbers.
    for (knot, _), to in sorted(leads.items(), key=lambda row: row[1]):
        if knot:
            depths[to] = depths[knot] + 1
    return len(depths), max(depths.values())


class EndsTest(unittest.TestCase, Checks):

    def test_each_ends_but_both_go_on(self):
        self.assert_same([ends(ONE), ends(Book([BACK])), ends(TWO)], [True, True, False])
        self.assert_same([ends(TWO, BEGIN), ends(TWO, NEAR), ends(TWO, Front([("h",)]))], [False, False, True])

    def test_the_empty_book_and_the_empty_front(self):
        for front in (None, Front(), BEGIN, Front([("x", "y", "z")]), Front.full(["f", "g", "h"], 3)):
            self.assertIs(ends(Book(), front), True)
        for book in some_books():
            self.assertIs(ends(book, Front()), True)
            self.assert_same([front_size(book, Front()), front_depth(book, Front())], [1, 0])
        self.assert_same([front_size(Book(), Front([("f", "g"), ("h",)])), front_depth(Book(), Front([("f", "g")]))],
                         [4, 2])

    def test_fronts_that_end_by_a_book_that_does_not(self):
        rows = [(TWO, Front([("h",)])), (GROWING, BEGIN), (GROWING, Front([("f", "f", "f"), ("h",)])),
                (Book([LOOP, INWARD]), Front([("f", "f")])),
                (Book([Saying([("f", "g")], [("f", "f", "g")])]), Front([("f",), ("g",), ("g", "f")]))]
        for book, front in rows:
            self.assert_same([ends(book), ends(book, None), ends(book, front)], [False, False, True])
            self.assertIsNone(ranked_table(book))
            self.assertIs(is_ranked(book, ranked_table(book, front), front), True)
            self.assertIsNone(lasso_of(book, front))
            self.assertIs(is_lasso(book, lasso_of(book)), True)

    def test_for_none_it_is_the_full_front(self):
        chance = random.Random(62)
        told = {True: 0, False: 0}
        for _ in range(150):
            book = random_book(chance, 3)
            ending = measured(book, book.full_front()) is not None
            self.assertIs(ends(book), ending)
            self.assertIs(ends(book=book, front=None), ending)
            self.assertIs(ends(book, book.full_front()), ending)
            told[ending] += 1
        self.assertGreater(min(told.values()), 20)

    def test_a_book_that_ends_goes_on_from_no_front_and_no_web(self):
        chance = random.Random(63)
        webs = some_webs()
        seen = 0
        for _ in range(60):
            book = random_short_book(chance)
            if ends(book):
                seen += 1
                for _ in range(10):
                    self.assertIs(ends(book, random_front(chance)), True)
                for web in webs:
                    # This raises TooMany if rounds lead to more knots.
                    rested(rows_of(book), leads_of_web(web), 20000, [])
        self.assertGreater(seen, 15)

    def test_as_the_plain_words_say(self):
        for book, front in some_pairs():
            before = repr(book), repr(front)
            plain = measured(book, front)
            self.assertIs(ends(book, front), plain is not None)
            self.assertIs(ends(front=front, book=book), plain is not None)
            self.assert_same((front_size(book, front), front_depth(front=front, book=book)), plain or (None, None))
            self.assert_same((repr(book), repr(front)), before)

    def test_as_rounds_make(self):
        rests = 0
        for book, front in some_pairs():
            made = built(book, front)
            told = front_size(book, front), front_depth(book, front)
            if made is None:
                self.assertTrue(told[0] is None or told[0] > 400)
            else:
                rests += 1
                self.assert_same(told, made)
                self.assert_same(len(end_of(book, Web.of(front))), told[0])
        self.assertGreater(rests, 60)

    def test_ends_with_many_knots(self):
        for book, size, depth in GREAT:
            full = book.full_front()
            self.assert_same((front_size(book, full), front_depth(book, full)), (size, depth))
            self.assert_same(built(book, full, 2000), (size, depth))
            self.assertRaises(TooMany, end_of, book, Web.of(full))
            self.assertIs(ends(book), True)

    def test_fronts_with_many_words(self):
        book = GREAT[0][0]
        front = Front(all_words("abcdexyz", 3)) | book.full_front()
        self.assert_same(front_size(book, front), front_size(book, book.full_front()) + 8 + 64 + 512)
        self.assert_same(front_depth(book, front), 11)

    def test_letters_of_a_front_that_the_book_does_not_have(self):
        self.assert_same([front_size(ONE, Front([("x", "f"), ("y",)])), front_depth(ONE, Front([("x", "f"), ("y",)]))],
                         [5, 3])

    def test_wrong_parameters(self):
        fronts = [row for row in no_fronts() if row[0] is not None]
        rows = {"book": no_books(), "front": fronts}
        for action in (ends, ranked_table, lasso_of):
            self.assert_parameters(action, {"book": ONE, "front": None}, rows)
            self.assert_parameters(action, {"book": ONE}, rows)
        for action in (is_ranked, is_lasso):
            for value in (TABLE, LASSO, None):
                self.assert_parameters(action, {"book": ONE, "value": value, "front": BEGIN}, rows)
        rows["front"] = no_fronts()
        for action in (front_size, front_depth):
            self.assert_parameters(action, {"book": ONE, "front": BEGIN}, rows)


class RankedTest(unittest.TestCase, Checks):

    def test_told_ones(self):
        for book, front in some_pairs():
            for asked in (front, None):
                table = ranked_table(book, asked)
                words = book.full_front() if asked is None else front
                self.assertIs(table is None, measured(book, words) is None)
                if table is not None:
                    self.assertIs(type(table), list)
                    self.assertTrue(plain_ranked(table))
                    self.assertTrue(is_ranked_one(book, table))
                    self.assertTrue(any(words.is_within(row[0]) for row in table))
                    self.assertIs(is_ranked(book, table, asked), True)
                    self.assertIs(is_ranked(front=asked, value=tuple(table), book=book), True)
                    self.assertIs(is_table(book, [row[:2] for row in table]), True)
                    self.assert_same(ranked_table(front=asked, book=book), table)
                    self.assert_same(len(table), len(reached_fronts(book, words)))

    def test_one_of_both_papers(self):
        for book, front in some_pairs():
            for asked in (front, None):
                self.assertIs(ranked_table(book, asked) is None, lasso_of(book, asked) is not None)

    def test_for_a_front(self):
        self.assertIs(is_ranked(ONE, TABLE, BEGIN), True)
        self.assertIs(is_ranked(ONE, TABLE, Front()), True)
        self.assertIs(is_ranked(ONE, TABLE, NEAR), True)
        for front in (Front([("f",), ("g",)]), Front([("f", "g")]), Front([("h",)])):
            self.assertIs(is_ranked(ONE, TABLE, front), False)
        # The full front has the words of one letter.
        self.assertIs(is_ranked(ONE, TABLE), False)
        both = Front([("f",), ("g",)])
        self.assertIs(is_ranked(ONE, TABLE + [(both, both | Front([("f", "g")]), 2)]), True)
        self.assertIs(is_ranked(ONE, TABLE + [(both, both | Front([("f", "g")]), 2)], None), True)

    def test_the_empty_table_is_for_no_front(self):
        for book in (Book(), ONE):
            for front in (None, Front(), BEGIN):
                self.assertIs(is_ranked(book, [], front), False)
                self.assertIs(is_ranked(book, (), front), False)
        self.assertIs(is_ranked(Book(), [(Front(), Front(), 0)]), True)
        self.assertIs(is_ranked(Book(), [(Front(), Front(), 10 ** 40)]), True)

    def test_ranks(self):
        def with_ranks(*ranks):
            return [(*row[:2], rank) for row, rank in zip(TABLE, ranks)]
        for ranks in [(0, 1, 2), (3, 4, 9), (0, 10 ** 48, 10 ** 49)]:
            self.assertIs(is_ranked(ONE, with_ranks(*ranks), BEGIN), True)
        for ranks in [(0, 0, 2), (0, 1, 1), (2, 1, 0), (1, 1, 2), (0, 2, 1), (3, 1, 2), (0, True, 2), (False, 1, 2),
                      (0, 1, None), (0, 1, "2"), (-1, 0, 1), (0, 1, (2,)), (0, 1, [2])]:
            self.assertIs(is_ranked(ONE, with_ranks(*ranks), BEGIN), False, ranks)

    def test_the_same_tuple_fits_and_ranks_less(self):
        # One tuple for g fits but does not rank less, the other one ranks less but does not fit.
        wide = NEAR | Front([("g", "g")])
        told = [(Front(), Front(), 0), (NEAR, NEAR, 5), (NEAR, wide, 2), (BEGIN, Front([("f", "g")]), 3)]
        self.assertIs(is_ranked(ONE, told, BEGIN), False)
        self.assertIs(is_ranked(ONE, told + [(NEAR, NEAR, 1)], BEGIN), True)

    def test_no_ranks_for_a_book_that_goes_on(self):
        came = Front([("g",), ("f", "g"), ("f", "f", "g"), ("f", "f", "f")])
        rows = [(Front(), Front()), (NEAR, came), (came.cut(2), came)]
        self.assertIs(is_table(GROWING, rows), True)
        for ranks in [(0, 1, 2), (0, 2, 1), (0, 1, 1), (0, 9, 9)]:
            self.assertIs(is_ranked(GROWING, [(*row, rank) for row, rank in zip(rows, ranks)], NEAR), False)

    def test_each_tuple_is_needed(self):
        for at in range(len(TABLE)):
            self.assertIs(is_ranked(ONE, TABLE[:at] + TABLE[at + 1:], BEGIN), False)
        self.assertIs(is_ranked(ONE, TABLE[::-1] + TABLE, BEGIN), True)

    def test_what_is_none(self):
        for value in any_values() + no_lists() + [[list(row) for row in TABLE], [row[:2] for row in TABLE],
                                                  [(*row, 0) for row in TABLE]]:
            for book in (Book(), ONE):
                self.assertIs(is_ranked(book, value), False)
                self.assertIs(is_ranked(book, value, Front()), False)
        for value in any_values():
            self.assertIs(is_ranked(ONE, TABLE + [value], BEGIN), False)
            self.assertIs(is_ranked(ONE, TABLE + [(Front(), Front(), value)], BEGIN), type(value) is int and value >= 0)
            for row in [(value, BEGIN, 7), (Front(), value, 7)]:
                if not isinstance(value, Front):
                    self.assertIs(is_ranked(ONE, TABLE + [row], BEGIN), False)

    def test_changed_ones(self):
        chance = random.Random(64)
        told = {True: 0, False: 0}
        for book, front in some_pairs():
            table = ranked_table(book, front)
            for _ in range(12 if table else 0):
                changed = changed_part(chance, table)
                if chance.random() < 0.3:
                    changed = changed_part(chance, changed)
                right = plain_ranked(changed) and is_ranked_one(book, changed) and any(
                    front.is_within(row[0]) for row in changed)
                self.assertIs(is_ranked(book, changed, front), bool(right), changed)
                told[bool(right)] += 1
        self.assertGreater(min(told.values()), 150)

    def test_returned_lists_are_new(self):
        ranked_table(ONE, BEGIN).clear()
        self.assert_same(len(ranked_table(ONE, BEGIN)), 3)
        passed = list(TABLE)
        is_ranked(ONE, passed, BEGIN)
        self.assert_same(passed, TABLE)


class LassoTest(unittest.TestCase, Checks):

    def test_told_ones(self):
        seen = 0
        for book, front in some_pairs():
            for asked in (front, None):
                lasso = lasso_of(book, asked)
                words = book.full_front() if asked is None else front
                self.assertIs(lasso is None, measured(book, words) is not None)
                if lasso is not None:
                    seen += 1
                    self.assertTrue(plain_lasso(lasso))
                    self.assert_same([type(part) for part in lasso], [list, list, int, list])
                    self.assertTrue(is_lasso_one(book, lasso))
                    self.assertTrue(lasso[0][0].is_within(words))
                    self.assertIs(is_lasso(book, lasso, asked), True)
                    self.assertIs(is_lasso(book, lasso), True)
                    self.assertIs(is_lasso(front=asked, value=lasso, book=book), True)
                    self.assert_same(lasso_of(front=asked, book=book), lasso)
        self.assertGreater(seen, 60)

    def test_from_fronts_with_words_of_three_letters(self):
        for book, front in [(GROWING, Front([("g", "g", "g")])), (TWO, Front([("g", "f", "f"), ("h", "h", "h")])),
                            (Book([Saying([("f", "f", "f")], [("g", "f", "g")]), Saying([("f", "g")], [("f", "f", "f")])]),
                             Front([("f", "f", "f"), ("g", "g", "g")]))]:
            lasso = lasso_of(book, front)
            self.assertIs(lasso is None, measured(book, front) is not None)
            self.assertIs(lasso is None or is_lasso(book, lasso, front), True)

    def test_example(self):
        self.assertIs(is_lasso(GROWING, LASSO), True)
        self.assertIs(is_lasso(GROWING, LASSO, NEAR), True)
        self.assertIs(is_lasso(GROWING, (tuple(LASSO[0]), tuple(LASSO[1]), 0, tuple(LINES)), NEAR), True)

    def test_it_begins_elsewhere(self):
        for front in (BEGIN, Front(), Front([("h", "g")]), Front([("f", "g")])):
            self.assertIs(is_lasso(GROWING, LASSO, front), False)
        for front in (NEAR, NEAR | BEGIN, Front([("g", "g", "g"), ("h",)])):
            self.assertIs(is_lasso(GROWING, LASSO, front), True)

    def test_fronts(self):
        self.assertIs(is_lasso(GROWING, ([NEAR], [], 0, LINES)), False)
        self.assertIs(is_lasso(GROWING, ([], [], 0, [])), False)
        self.assertIs(is_lasso(GROWING, ([], ["f"], 0, LINES)), False)
        # More of them.
        for many in range(2, 6):
            fronts, letters = [NEAR] * many, ["f"] * (many - 1)
            for position in range(-2, many + 2):
                told = (fronts, letters, position, LINES)
                self.assertIs(is_lasso(GROWING, told, NEAR), 0 <= position < many - 1)
        long = Front([("g", "g", "g")])
        lines = [(long, ("g",), "told"), (long, ("f",), 0), (long, ("f", "g"), 0)]
        self.assertIs(is_lasso(GROWING, ([long, NEAR, NEAR], ["f", "f"], 1, lines + LINES)), True)
        # A front that is not the first one has no word of three letters, and the last one has all of that at the position.
        self.assertIs(is_lasso(GROWING, ([long, NEAR, NEAR], ["f", "f"], 0, lines + LINES)), False)
        self.assertIs(is_lasso(GROWING, ([NEAR, long], ["f"], 0, LINES + lines)), False)

    def test_no_word_of_three_letters_behind_the_first_front(self):
        # All lines are right, so that only this is wrong.
        book = Book([Saying([("f",)], [("f", "f")])])
        full = Front([("f", "f", "f")])
        lines = [(full, ("f",) * many, "told") for many in (1, 2, 3)]
        self.assertIs(wrong_line(book, lines), None)
        self.assertIs(is_lasso(book, ([full, full.cut(2)], ["f"], 0, lines)), False)
        self.assertIs(is_lasso(book, ([full, full.cut(2), full], ["f", "f"], 0, lines)), False)
        half = full.cut(2)
        more = [(half, ("f",), "told"), (half, ("f", "f"), "told"), (BEGIN, ("f",), "told"), (BEGIN, ("f", "f"), 0),
                (half, ("f", "f", "f"), ("f", BEGIN))]
        self.assertIs(is_lasso(book, ([full, half, half], ["f", "f"], 1, lines + more)), True)

    def test_the_front_at_the_position_is_within_the_last_one(self):
        book = Book([Saying([("f",)], [("g",)]), Saying([("g",)], [("f", "g")])])
        wide = Front([("f",), ("g",)])
        lines = [(wide, word, "told") for word in wide.words()] + [(wide, ("f", "g"), 1)]
        near = [(NEAR, ("g",), "told"), (NEAR, ("f",), 1), (NEAR, ("f", "g"), 1)]
        self.assertIs(is_lasso(book, ([wide, NEAR, NEAR], ["f", "f"], 1, lines + near)), True)
        self.assertIs(is_lasso(book, ([wide, NEAR, NEAR], ["f", "f"], 0, lines + near)), False)
        self.assertIs(is_lasso(book, ([wide, NEAR], ["f"], 0, lines)), False)
        # It need not be equal to it.
        deep = [(NEAR, ("f", "f"), ("f", NEAR))]
        self.assertIs(is_lasso(book, ([NEAR, wide], ["f"], 0, near + deep)), True)

    def test_letters(self):
        for letters in (["g"], ["f", "f"], [], ["F"], [("f",)], [None], "f", ("f",), {"f": True}, ["f", "g"]):
            self.assertIs(is_lasso(GROWING, ([NEAR, NEAR], letters, 0, LINES)), letters == ("f",))

    def test_positions(self):
        for position in any_values():
            self.assertIs(is_lasso(GROWING, ([NEAR, NEAR], ["f"], position, LINES)), position == 0 and position is not False)

    def test_lines(self):
        for at in range(len(LINES)):
            self.assertIs(is_lasso(GROWING, ([NEAR, NEAR], ["f"], 0, LINES[:at] + LINES[at + 1:])), False)
        for lines in ([], LINES[::-1], LINES + [(NEAR, ("h",), "told")], LINES + [None], None, LINES[0], "told", 0, {},
                      [list(line) for line in LINES]):
            self.assertIs(is_lasso(GROWING, ([NEAR, NEAR], ["f"], 0, lines)), False)
        self.assertIs(is_lasso(GROWING, ([NEAR, NEAR], ["f"], 0, LINES + [(NEAR, (), "told")])), True)
        # Another book does not accept them.
        for book in (Book(), ONE, Book([INWARD, LOOP])):
            self.assertIs(is_lasso(book, LASSO), False)

    def test_a_line_for_the_letter_alone(self):
        # Also for the empty word of a front there is a line.
        book = Book([Saying([("f",)], [("g",)])])
        self.assertIs(is_lasso(book, ([Front(), Front()], ["f"], 0, [])), False)
        self.assertIs(is_lasso(book, ([BEGIN, Front()], ["f"], 0, [(BEGIN, ("f",), "told")])), False)
        self.assertIs(is_lasso(book, ([BEGIN, BEGIN], ["f"], 0, [(BEGIN, ("f",), "told")])), False)

    def test_what_is_none(self):
        values = any_values() + [list(LASSO), LASSO[:3], LASSO + (0,), LASSO[0], LINES, (LASSO,), {"lasso": LASSO}]
        for value in values:
            for front in (None, NEAR, Front()):
                self.assertIs(is_lasso(GROWING, value, front), False)
        for value in any_values():
            for at in range(4):
                told = LASSO[:at] + (value,) + LASSO[at + 1:]
                right = (at == 1 and value in (["f"], ("f",))) or (at == 2 and value == 0 and value is not False)
                self.assertIs(is_lasso(GROWING, told), right, value)
            if not isinstance(value, Front):
                self.assertIs(is_lasso(GROWING, ([value, NEAR], ["f"], 0, LINES)), False)
                self.assertIs(is_lasso(GROWING, ([NEAR, value], ["f"], 0, LINES)), False)
            self.assertIs(is_lasso(GROWING, ([NEAR, NEAR], [value], 0, LINES)), value == "f")
            self.assertIs(is_lasso(GROWING, ([NEAR] * 3, ["f", value], 0, LINES)), value == "f")
            self.assertIs(is_lasso(GROWING, ([NEAR] * 3, [value, "f"], 0, LINES)), value == "f")

    def test_changed_ones(self):
        chance = random.Random(65)
        told = {True: 0, False: 0}
        for book, front in some_pairs():
            lasso = lasso_of(book, front)
            for _ in range(12 if lasso else 0):
                changed = changed_part(chance, lasso)
                if chance.random() < 0.3:
                    changed = changed_part(chance, changed)
                right = plain_lasso(changed) and is_lasso_one(book, changed)
                self.assertIs(is_lasso(book, changed), right)
                begins = right and changed[0][0].is_within(front)
                self.assertIs(is_lasso(book, changed, front), begins)
                told[right] += 1
                if right:
                    self.assertIsNone(measured(book, changed[0][0]))
        self.assertGreater(min(told.values()), 50)

    def test_none_for_a_book_that_ends(self):
        chance = random.Random(66)
        lassos = [lasso_of(book, front) for book, front in some_pairs() if lasso_of(book, front)]
        for book in [row for row in some_books() if ends(row)] + [row[0] for row in GREAT]:
            for lasso in lassos:
                self.assertIs(is_lasso(book, lasso), False)
            for _ in range(20):
                self.assertIs(is_lasso(book, changed_part(chance, chance.choice(lassos))), False)

    def test_returned_lists_are_new(self):
        for part in (0, 1, 3):
            lasso_of(GROWING)[part].clear()
        self.assertIs(is_lasso(GROWING, lasso_of(GROWING)), True)
        passed = (list(LASSO[0]), list(LASSO[1]), 0, list(LINES))
        is_lasso(GROWING, passed)
        self.assert_same(passed, LASSO)

    def test_all_short_fronts(self):
        for book in (TWO, GROWING, Book([Saying([("f", "g")], [("g", "f", "g")])])):
            for word in all_words("fgh", 3):
                front = Front([word])
                self.assertIs(lasso_of(book, front) is None, measured(book, front) is not None)


if __name__ == "__main__":
    unittest.main()
