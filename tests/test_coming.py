"""What comes, and which fronts are reached: [2], [12], [51], [52]."""

import itertools
import random
import unittest

from helping import (
    BACK, LOOP, UP, Checks, all_words, error_of, no_books, no_fronts, no_letters, no_words, random_book, random_front,
    some_books, wrong,
)
from naive import behind_of, coming_words, reached_of
from wakesayings.books import Book
from wakesayings.coming import behind_letter, comes, coming_front, each_reached, reached_fronts
from wakesayings.errors import InvalidBook, InvalidFront, InvalidLetter, TooMany, UnknownLetter
from wakesayings.fronts import Front
from wakesayings.making import each_round
from wakesayings.sayings import Saying
from wakesayings.webs import Web

BOTH = Book([UP, BACK])
BEGIN = Front([("f",)])


def some_pairs():
    """Books and fronts, the empty front and fronts with other letters among them."""
    chance = random.Random(51)
    fronts = [Front(), BEGIN, Front([("g",)]), Front([("f", "g", "f")]), Front([("f", "f", "f"), ("h", "g")]),
              Front([("x", "f"), ("f", "x", "g"), ("y",)]), Front.full(["f", "g"], 2)]
    rows = [(book, front) for book in some_books() for front in fronts]
    rows += [(book, book.full_front()) for book in some_books()]
    return rows + [(random_book(chance, 6), random_front(chance)) for _ in range(150)]


def plainly_coming(book, front):
    return coming_words(book, front.words())[frozenset(front.words())]


class ComingTest(unittest.TestCase, Checks):

    def test_examples(self):
        rows = [
            (BOTH, BEGIN, [("f", "g", "f")]), (BOTH, Front([("f", "g")]), [("f", "g", "f")]),
            (BOTH, Front(), []), (Book(), BEGIN, [("f",)]), (Book(), Front([("f", "g", "h")]), [("f", "g", "h")]),
            (Book([UP]), Front([("f", "f")]), [("f", "f", "g"), ("f", "g")]),
            (Book([LOOP]), Front([("g",)]), [("g",), ("f", "g"), ("f", "f", "g"), ("f", "f", "f")]),
            # What is put in behind a letter meets a trigger that begins ahead of it.
            (Book([UP, Saying([("f", "g", "h")], [("h",)]), Saying([("g",)], [("g", "h")])]), BEGIN,
             [("f", "g", "h"), ("h",)]),
        ]
        for book, front, words in rows:
            self.assert_same(coming_front(book, front), Front(words))

    def test_as_the_least_fronts_tell(self):
        for book, front in some_pairs():
            before = repr(book), repr(front)
            came = coming_front(book, front)
            self.assert_same(came, Front(sorted(plainly_coming(book, front))))
            self.assert_same(coming_front(front=front, book=book), came)
            self.assert_same((repr(book), repr(front)), before)

    def test_what_rounds_put_in_comes(self):
        rests = goes_on = 0
        for book, front in some_pairs():
            came = coming_front(book, front)
            web, still = Web.of(front), False
            generator = each_round(book, web)
            try:
                for many, web in enumerate(generator):
                    if many == 8 or len(web) > 150:
                        still = True
                        break
            except TooMany:
                still = True
            walked = web.front_at(("x",))
            self.assertTrue(walked.is_within(came))
            if not still:
                self.assert_same(walked, came)
                rests += 1
            goes_on += still
        self.assertGreater(min(rests, goes_on), 30)

    def test_what_comes_is_walked_at_some_time_though_the_book_goes_on(self):
        rows = [(BOTH, BEGIN), (Book([LOOP]), Front([("g",)])), (Book([LOOP, UP]), Front([("h", "g")])),
                (Book([Saying([("f",)], [("f", "f")])]), BEGIN),
                (Book([Saying([("g",)], [("f", "g")]), Saying([("f", "f", "g")], [("h",)])]), Front([("g",)]))]
        for book, front in rows:
            walked = Front()
            with self.assertRaises(TooMany):
                for web in each_round(book, Web.of(front)):
                    walked = web.front_at(("x",))
            self.assert_same(coming_front(book, front), walked)

    def test_each_word(self):
        for book, front in some_pairs()[::2]:
            came = plainly_coming(book, front)
            for word in all_words("fgh", 3):
                self.assertIs(comes(book, front, word), word in came)
        self.assertIs(comes(word=("f", "g"), front=BEGIN, book=BOTH), True)

    def test_a_front_that_came_brings_nothing_more(self):
        for book, front in some_pairs():
            came = coming_front(book, front)
            self.assert_same(coming_front(book, came), came)

    def test_behind_a_letter(self):
        for book, front in some_pairs()[::2]:
            came = plainly_coming(book, front)
            for letter in sorted({word[0] for word in came if word}):
                self.assert_same(behind_letter(book, front, letter), Front(sorted(behind_of(came, letter))))
        self.assert_same(behind_letter(letter="f", front=BEGIN, book=BOTH), Front([("g", "f")]))

    def test_a_letter_that_does_not_come(self):
        for letter in ("g", "h", "abcdefgh"):
            self.assert_invalid(UnknownLetter, letter, behind_letter, BOTH, BEGIN, letter)
            self.assert_invalid(UnknownLetter, letter, behind_letter, BOTH, Front(), letter)
        # Inside of a word is not at its beginning.
        self.assert_invalid(UnknownLetter, "g", behind_letter, Book(), Front([("f", "g")]), "g")

    def test_wrong_parameters(self):
        good = {"book": BOTH, "front": BEGIN}
        rows = {"book": no_books(), "front": no_fronts(), "word": no_words(),
                "letter": no_letters() + wrong(UnknownLetter, ["g", "h"])}
        self.assert_parameters(coming_front, good, rows)
        self.assert_parameters(reached_fronts, good, rows)
        self.assert_parameters(comes, dict(good, word=("f",)), rows)
        self.assert_parameters(behind_letter, dict(good, letter="f"), rows)
        self.assert_raises(InvalidLetter, {"value": ("f",)}, behind_letter, BOTH, BEGIN, ("f",))


class ReachedTest(unittest.TestCase, Checks):

    def test_examples(self):
        self.assert_same(reached_fronts(BOTH, BEGIN), [BEGIN, Front([("f",), ("f", "g")]), Front([("g",), ("g", "f")])])
        self.assert_same(list(each_reached(BOTH, BEGIN)),
                         [BEGIN, Front([("g",), ("g", "f")]), Front([("f",), ("f", "g")])])
        self.assert_same(reached_fronts(BOTH, Front()), [Front()])
        self.assert_same(list(each_reached(Book(), Front([("g", "f"), ("f",)]))),
                         [Front([("g", "f"), ("f",)]), Front(), BEGIN])
        self.assert_same(reached_fronts(Book(), Front([("g", "f"), ("f",)])),
                         [Front(), BEGIN, Front([("g", "f"), ("f",)])])

    def test_both_sequences(self):
        for book, front in some_pairs():
            turn = [Front(sorted(words)) for words in reached_of(book, front.words())]
            self.assert_same(list(each_reached(book, front)), turn)
            self.assert_same(list(each_reached(front=front, book=book)), turn)
            found = reached_fronts(book, front)
            self.assert_same(found, sorted(turn, key=lambda row: (len(row), row.words())))
            for one, another in zip(found, found[1:]):
                self.assertIs(one.is_before(another), True)

    def test_the_front_itself_is_first(self):
        for book, front in some_pairs():
            self.assert_same(next(each_reached(book, front)), front)

    def test_books_that_go_on_reach_few(self):
        book = Book([Saying([(letter,)], [(letter, other, letter)]) for letter, other in ["fg", "gh", "hf"]])
        for words in itertools.product(all_words("fgh", 2), repeat=2):
            self.assertLess(len(reached_fronts(book, Front(words))), 100)

    def test_returned_lists_are_new(self):
        reached_fronts(BOTH, BEGIN).clear()
        self.assert_same(len(reached_fronts(BOTH, BEGIN)), 3)

    def test_generators_look_when_the_iteration_begins(self):
        for value, kind, parts in no_books():
            generator = each_reached(value, None)
            self.assert_raises(kind, parts, next, generator)
        for value, kind, parts in no_fronts():
            generator = each_reached(front=value, book=Book())
            self.assert_raises(kind, parts, next, generator)
        self.assertIs(type(error_of(next, each_reached(1, 1))), InvalidBook)
        self.assertIs(type(error_of(next, each_reached(BOTH, BOTH))), InvalidFront)


if __name__ == "__main__":
    unittest.main()
