"""Lines and derivations: [2], [4], [53]."""

import random
import unittest

from helping import (
    BACK, LOOP, UP, Checks, all_words, any_values, no_books, no_fronts, no_lists, no_words, plain_line, plain_reason,
    random_book, random_front, some_books,
)
from naive import coming_words, first_wrong
from wakesayings.books import Book
from wakesayings.errors import InvalidBook
from wakesayings.fronts import Front
from wakesayings.lines import derivation_of, is_derivation, is_line, wrong_line
from wakesayings.sayings import Saying

BOTH = Book([UP, BACK])
BEGIN = Front([("f",)])
BEHIND = Front([("g",)])
# Each line is right by those ahead: f.g.f comes, as g.f comes behind f.
LINES = [
    (BEGIN, ("f",), "told"), (BEGIN, ("f", "g"), 0), (BEHIND, ("g",), "told"), (BEHIND, ("g", "f"), 1),
    (BEGIN, ("f", "g", "f"), ("f", BEHIND)),
]


def no_reasons():
    values = any_values() + [
        "Told", "told ", b"told", ["told"], ("told",), ("f", BEGIN, 0), ("f",), ["f", BEGIN], ("F", BEGIN), (BEGIN, "f"),
        ("f", ("f",)), ("f", None), (None, BEGIN), (("f",), BEGIN), ("f", [BEGIN]), 6, -1, True, False, BEGIN, ("", BEGIN),
    ]
    return [value for value in values if not plain_reason(value)]


def no_lines():
    values = any_values() + [(BEGIN, ("f",), reason) for reason in no_reasons()]
    values += [(value, ("f",), "told") for value in any_values()] + [(BEGIN, value, "told") for value in any_values()]
    values += [[BEGIN, ("f",), "told"], (BEGIN, ("f",)), (BEGIN, ("f",), "told", 0), (("f",), BEGIN, "told"), (), (BEGIN,)]
    return [value for value in values if not plain_line(value)]


def some_pairs(many=60):
    chance = random.Random(53)
    rows = [(book, front) for book in some_books() for front in
            [Front(), BEGIN, Front([("f", "g", "f"), ("h",)]), Front([("x", "f"), ("g", "y")])]]
    rows += [(book, book.full_front()) for book in some_books()]
    return rows + [(random_book(chance, 6), random_front(chance)) for _ in range(many)]


def changed(chance, book, lines):
    """The lines with something changed in one of them, left out, put elsewhere or put in."""
    rows = list(lines)
    at = chance.randrange(len(rows))
    front, word, reason = rows[at]
    fronts = [row[0] for row in rows] + [Front(), BEGIN, Front([("f", "f", "f")])]
    reasons = ["told", *range(6), ("f", chance.choice(fronts)), (chance.choice("fgh"), front)]
    way = chance.randrange(7)
    if way == 0:
        del rows[at]
    elif way == 1:
        rows[at] = (front, word, chance.choice(reasons))
    elif way == 2:
        rows[at] = (front, chance.choice(all_words("fgh", 3)), reason)
    elif way == 3:
        rows[at] = (chance.choice(fronts), word, reason)
    elif way == 4:
        rows.insert(chance.randrange(len(rows)), rows.pop(at))
    elif way == 5:
        rows.insert(at, (front, chance.choice(all_words("fgh", 3)), chance.choice(reasons)))
    else:
        rows = rows[at:] + rows[:at]
    return rows


class LinesTest(unittest.TestCase, Checks):

    def test_lines(self):
        for front in (Front(), BEGIN, Front([("x", "y", "z")])):
            for word in [(), ("f",), ("f", "g"), ("abcdefgh", "g", "f")]:
                for reason in ["told", 0, 1, 2, 3, 4, 5, ("f", BEGIN), ("abcdefgh", Front()), ("x", front)]:
                    self.assertIs(is_line((front, word, reason)), True)

    def test_no_lines(self):
        for value in no_lines():
            self.assertIs(is_line(value), False, value)
            self.assertIs(is_line(value=value), False, value)

    def test_any_values(self):
        for value in any_values():
            self.assertIs(is_line(value), plain_line(value), value)


class WrongLineTest(unittest.TestCase, Checks):

    def test_all_right(self):
        for many in range(len(LINES) + 1):
            self.assertIsNone(wrong_line(BOTH, LINES[:many]))
            self.assertIsNone(wrong_line(value=tuple(LINES[:many]), book=BOTH))
        self.assertIsNone(wrong_line(BOTH, LINES + LINES))
        self.assertIsNone(wrong_line(Book(), []))

    def test_no_list(self):
        for value in no_lists():
            self.assert_same(wrong_line(BOTH, value), -1)

    def test_first_that_is_no_line(self):
        for value in no_lines():
            for at in range(len(LINES) + 1):
                told = LINES[:at] + [value] + LINES[at:]
                self.assert_same(wrong_line(BOTH, told), at)
                self.assert_same(wrong_line(BOTH, tuple(told) + (None,)), at)

    def test_each_line_is_needed(self):
        for at in range(len(LINES) - 1):
            told = LINES[:at] + LINES[at + 1:]
            self.assert_same(wrong_line(BOTH, told), {0: 0, 1: 3, 2: 2, 3: 3}[at])
        # What stands behind a line does not help it.
        self.assert_same(wrong_line(BOTH, LINES[::-1]), 0)
        self.assert_same(wrong_line(BOTH, LINES[1:] + LINES[:1]), 0)

    def test_told(self):
        front = Front([("f", "g"), ("h",)])
        for word in all_words("fgh", 3):
            self.assert_same(wrong_line(BOTH, [(front, word, "told")]), None if word in front else 0)

    def test_by_a_saying(self):
        book = Book([Saying([("f",), ("g", "g")], [("f", "g", "h"), ("h",)])])
        front = Front([("f",), ("g", "g")])
        ahead = [(front, ("f",), "told"), (front, ("g", "g"), "told")]
        right = [(), ("f",), ("f", "g"), ("f", "g", "h"), ("h",)]
        for word in all_words("fgh", 3):
            self.assert_same(wrong_line(book, ahead + [(front, word, 0)]), None if word in right else 2)
            for number in range(1, 6):
                self.assert_same(wrong_line(book, ahead + [(front, word, number)]), 2)
            self.assert_same(wrong_line(book, ahead[:1] + [(front, word, 0)]), 1)
            self.assert_same(wrong_line(book, ahead[1:] + [(front, word, 0)]), 1)
            # Triggers that came from another front do not count.
            other = Front([("f",), ("g", "g"), ("g", "f")])
            self.assert_same(wrong_line(book, ahead + [(other, word, 0)]), 2)

    def test_a_front_in_a_line_is_told_by_its_words(self):
        told = [(Front([("f",)]), ("f",), "told"), (Front([("f",), ()]), ("f", "g"), 0)]
        self.assertIsNone(wrong_line(Book([UP]), told))

    def test_by_a_letter(self):
        behind = Front([("g", "g"), ("h",)])
        front = Front([("f", "g", "g"), ("f", "h")])
        ahead = [(front, (*word,), "told") for word in [("f",), ("f", "g"), ("f", "g", "g"), ("f", "h")]]
        ahead += [(behind, word, "told") for word in [("g", "g"), ("h",)]]
        last = (front, ("f", "h"), ("f", behind))
        self.assertIsNone(wrong_line(Book(), ahead + [last]))
        self.assertIsNone(wrong_line(Book(), ahead + [(front, ("f", "g", "g"), ("f", behind))]))
        for at in (0, 1, 2, 3, 5):
            self.assert_same(wrong_line(Book(), ahead[:at] + ahead[at + 1:] + [last]), 5)
        # The word that comes behind the letter needs a line with the other front itself.
        self.assert_same(wrong_line(Book(), ahead + [(front, ("f", "g"), ("f", behind))]), 6)
        self.assert_same(wrong_line(Book(), ahead + [(front, ("f",), ("f", behind))]), 6)
        for wrong in [(front, ("g", "h"), ("f", behind)), (front, ("g", "h"), ("g", behind)), (front, (), ("f", behind)),
                      (front, ("f", "h"), ("g", behind)), (behind, ("f", "h"), ("f", behind)),
                      (front, ("f", "h"), ("f", Front([("h",)]))), (front, ("h",), ("f", behind))]:
            self.assert_same(wrong_line(Book(), ahead + [wrong]), 6)

    def test_the_empty_word_behind_a_letter(self):
        # Also for the empty word of the other front there is a line with the letter alone.
        front = Front([("f",)])
        told = [(Front(), (), "told"), (front, ("f",), ("f", Front()))]
        self.assert_same(wrong_line(Book(), told), 1)
        self.assertIsNone(wrong_line(Book(), [(front, ("f",), "told")] + told))

    def test_no_word_of_three_letters_stands_behind(self):
        long = Front([("g", "g", "g")])
        front = Front([("f", "g", "g")])
        ahead = [(front, word, "told") for word in front.words()] + [(long, ("g",), "told")]
        self.assert_same(wrong_line(Book(), ahead + [(front, ("f", "g"), ("f", long))]), 5)
        short = Front([("g", "g")])
        self.assertIsNone(wrong_line(Book(), ahead[:-1] + [(short, ("g",), "told"), (front, ("f", "g"), ("f", short))]))

    def test_as_the_plain_words_say(self):
        chance = random.Random(54)
        for book, front in some_pairs():
            for word in sorted(coming_words(book, front.words())[frozenset(front.words())])[::3]:
                lines = derivation_of(book, front, word)
                for _ in range(4):
                    told = changed(chance, book, lines)
                    self.assert_same(wrong_line(book, told), first_wrong(book, told))

    def test_wrong_parameters(self):
        self.assert_parameters(wrong_line, {"book": BOTH, "value": LINES}, {"book": no_books()})
        for value in no_lists():
            self.assert_invalid(InvalidBook, None, wrong_line, None, value)

    def test_what_is_passed_stays(self):
        told = list(LINES)
        wrong_line(BOTH, told)
        is_derivation(BOTH, BEGIN, ("f", "g", "f"), told)
        self.assert_same(told, LINES)


class DerivationTest(unittest.TestCase, Checks):

    def test_of_a_front_and_a_word(self):
        for many, (front, word, _) in enumerate(LINES):
            for other, another in [(BEGIN, ("f",)), (BEGIN, ("f", "g")), (BEHIND, ("g",)), (BEHIND, ("g", "f")),
                                   (BEGIN, ("f", "g", "f")), (BEGIN, ()), (Front(), ())]:
                told = LINES[:many + 1]
                is_last = (other, another) == (front, word)
                self.assertIs(is_derivation(BOTH, other, another, told), is_last)
                self.assertIs(is_derivation(value=tuple(told), word=another, front=other, book=BOTH), is_last)

    def test_of_another_front_with_the_same_word(self):
        for front in (Front([("f", "g")]), Front([("f",), ("g",)]), Front()):
            self.assertIs(is_derivation(BOTH, front, ("f",), LINES[:1]), False)
            self.assertIs(is_derivation(BOTH, front, ("f", "g", "f"), LINES), False)
            self.assertIs(is_derivation(BOTH, front, ("f",), [(front, (), "told")] + LINES[:1]), False)

    def test_nothing_is_of_no_front(self):
        for told in ([], ()):
            self.assertIs(is_derivation(BOTH, BEGIN, ("f",), told), False)
            self.assertIs(is_derivation(BOTH, Front(), (), told), False)
            self.assertIsNone(wrong_line(BOTH, told))

    def test_any_values(self):
        for value in any_values() + no_lines() + [LINES[:1] + [None], [None] + LINES[:1], dict.fromkeys(range(3)), LINES[0]]:
            self.assertIs(is_derivation(BOTH, BEGIN, ("f",), value), False)
        for value in no_lines():
            self.assertIs(is_derivation(BOTH, BEGIN, ("f",), [value, LINES[0]]), False)
            self.assertIs(is_derivation(BOTH, BEGIN, ("f",), [LINES[0], value]), False)

    def test_each_word_that_comes_has_one(self):
        for book, front in some_pairs():
            before = repr(book), repr(front)
            came = coming_words(book, front.words())[frozenset(front.words())]
            for word in sorted(came) + all_words("fgh", 2):
                lines = derivation_of(book, front, word)
                if word not in came:
                    self.assertIsNone(lines)
                    continue
                self.assertIs(type(lines), list)
                self.assertTrue(all(plain_line(line) for line in lines))
                self.assertIsNone(first_wrong(book, lines))
                self.assertEqual(lines[-1][:2], (front, word))
                self.assertIsNone(wrong_line(book, lines))
                self.assertIs(is_derivation(book, front, word, lines), True)
                self.assert_same(derivation_of(word=word, front=front, book=book), lines)
            self.assert_same((repr(book), repr(front)), before)

    def test_books_that_go_on(self):
        book = Book([LOOP, Saying([("f", "f", "g")], [("h", "h", "h")])])
        for word in [("f", "f", "f"), ("f", "f", "h"), ("h", "h", "h"), ("f", "h", "h")]:
            lines = derivation_of(book, Front([("g",)]), word)
            self.assertIs(is_derivation(book, Front([("g",)]), word, lines), True)
        self.assertIsNone(derivation_of(book, Front([("g",)]), ("g", "g")))

    def test_none_is_accepted_for_what_does_not_come(self):
        chance = random.Random(55)
        accepted = refused = 0
        for book, front in some_pairs(100):
            came = coming_words(book, front.words())[frozenset(front.words())]
            lines = derivation_of(book, front, chance.choice(sorted(came)))
            for _ in range(30):
                told = changed(chance, book, lines)
                if chance.random() < 0.5 and told:
                    told = changed(chance, book, told)
                if not told:
                    continue
                of_front, of_word = told[-1][:2]
                comes = of_word in coming_words(book, of_front.words())[frozenset(of_front.words())]
                found = is_derivation(book, of_front, of_word, told)
                self.assertIs(found, first_wrong(book, told) is None)
                if found:
                    self.assertTrue(comes)
                accepted += found
                refused += not comes
        self.assertGreater(min(accepted, refused), 300)

    def test_another_book_does_not_accept_it(self):
        for word in [("f", "g"), ("f", "g", "f")]:
            lines = derivation_of(BOTH, BEGIN, word)
            self.assertIs(is_derivation(BOTH, BEGIN, word, lines), True)
            for book in [Book(), Book([BACK]), Book([LOOP, UP])]:
                self.assertIs(is_derivation(book, BEGIN, word, lines), False)

    def test_returned_lists_are_new(self):
        lines = derivation_of(BOTH, BEGIN, ("f", "g", "f"))
        many = len(lines)
        lines.clear()
        self.assert_same(len(derivation_of(BOTH, BEGIN, ("f", "g", "f"))), many)

    def test_wrong_parameters(self):
        rows = {"book": no_books(), "front": no_fronts(), "word": no_words()}
        good = {"book": BOTH, "front": BEGIN, "word": ("f",)}
        self.assert_parameters(derivation_of, good, rows)
        self.assert_parameters(is_derivation, dict(good, value=LINES), rows)
        self.assert_parameters(is_derivation, dict(good, value=None), rows)


if __name__ == "__main__":
    unittest.main()
