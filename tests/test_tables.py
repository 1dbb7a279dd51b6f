"""Tables: [2], [4], [54]."""

import random
import unittest

from helping import (
    BACK, LOOP, UP, Checks, all_words, any_values, no_books, no_fronts, no_lists, no_words, random_book, random_front,
    some_books,
)
from naive import coming_words, is_closed, is_shown, reached_of
from wakesayings.books import Book
from wakesayings.coming import coming_front
from wakesayings.fronts import Front
from wakesayings.sayings import Saying
from wakesayings.tables import is_table, shows, table_of, table_without

ONE = Book([UP])
BEGIN = Front([("f",)])
TABLE = [(Front(), Front()), (BEGIN, Front([("f", "g")])), (Front([("g",)]), Front([("g",)]))]


def some_pairs(many=60):
    chance = random.Random(55)
    rows = [(book, front) for book in some_books() for front in
            [Front(), BEGIN, Front([("f", "g", "f"), ("h",)]), Front([("x", "f"), ("g", "y")])]]
    rows += [(book, book.full_front()) for book in some_books()]
    return rows + [(random_book(chance, 6), random_front(chance)) for _ in range(many)]


def no_rows():
    """What is no tuple of two fronts."""
    values = any_values() + [(value, BEGIN) for value in any_values()] + [(BEGIN, value) for value in any_values()]
    values += [[BEGIN, BEGIN], (BEGIN,), (BEGIN, BEGIN, BEGIN), (BEGIN, BEGIN, 0), (), {BEGIN.words()[1]: BEGIN}]
    return [value for value in values if not (
        type(value) is tuple and len(value) == 2 and all(isinstance(part, Front) for part in value))]


def changed(chance, table):
    """The table with one tuple left out or changed, or one put in."""
    rows = list(table)
    at = chance.randrange(len(rows))
    front, standing = rows[at]
    way = chance.randrange(6)
    word = chance.choice(standing.words())
    less = Front([held for held in standing.words() if held[:len(word)] != word])
    if way == 0:
        del rows[at]
    elif way == 1:
        rows[at] = (front, less)
    elif way == 2:
        rows[at] = (front & less, less)
    elif way == 3:
        rows[at] = (front, standing | random_front(chance))
    elif way == 4:
        rows[at] = (front | random_front(chance), standing)
    else:
        rows.append((random_front(chance), random_front(chance)))
    return rows


class TableOfTest(unittest.TestCase, Checks):

    def test_example(self):
        self.assert_same(table_of(ONE, BEGIN), TABLE)
        self.assert_same(table_of(front=Front(), book=ONE), [(Front(), Front())])
        self.assert_same(table_of(Book(), Front([("f", "g")])), [
            (front, front) for front in [Front(), Front([("g",)]), Front([("f", "g")])]])

    def test_all_reached_fronts(self):
        for book, front in some_pairs():
            before = repr(book), repr(front)
            fronts = [Front(sorted(words)) for words in reached_of(book, front.words())]
            fronts = sorted(fronts, key=lambda row: (len(row), row.words()))
            table = table_of(book, front)
            self.assert_same(table, [(row, coming_front(book, row)) for row in fronts])
            self.assertIs(is_table(book, table), True)
            self.assertIs(is_closed(book, table), True)
            self.assert_same((repr(book), repr(front)), before)

    def test_returned_lists_are_new(self):
        table_of(ONE, BEGIN).clear()
        self.assert_same(table_of(ONE, BEGIN), TABLE)

    def test_wrong_parameters(self):
        rows = {"book": no_books(), "front": no_fronts(), "word": no_words()}
        good = {"book": ONE, "front": BEGIN}
        self.assert_parameters(table_of, good, rows)
        self.assert_parameters(table_without, dict(good, word=("g",)), rows)
        for value in (TABLE, None, []):
            self.assert_parameters(shows, dict(good, word=("g",), value=value), rows)
            self.assert_parameters(is_table, {"book": ONE, "value": value}, rows)


class IsTableTest(unittest.TestCase, Checks):

    def test_tables(self):
        for table in ([], (), TABLE, tuple(TABLE), TABLE[::-1], TABLE + TABLE):
            self.assertIs(is_table(ONE, table), True)
            self.assertIs(is_table(value=table, book=ONE), True)
        wide = Front.full(["f", "g"], 3)
        self.assertIs(is_table(Book([UP, BACK, LOOP]), [(wide.cut(2), wide)]), True)

    def test_no_list(self):
        for value in no_lists():
            self.assertIs(is_table(ONE, value), False)
            self.assertIs(shows(ONE, BEGIN, ("g",), value), False)

    def test_what_is_no_tuple_of_two_fronts(self):
        for value in no_rows():
            for at in range(len(TABLE) + 1):
                self.assertIs(is_table(ONE, TABLE[:at] + [value] + TABLE[at:]), False, value)
            self.assertIs(shows(ONE, BEGIN, ("g",), TABLE + [value]), False)
        for value in any_values():
            if value not in ([], ()) and not (type(value) is list and value == [(Front(), Front())]):
                self.assertIs(is_table(ONE, value), False, value)

    def test_each_tuple_is_needed(self):
        # Behind f stands g, and behind g nothing.
        self.assertIs(is_table(ONE, TABLE[1:]), False)
        self.assertIs(is_table(ONE, TABLE[:2]), False)
        self.assertIs(is_table(ONE, TABLE[:1] + TABLE[2:]), True)
        self.assertIs(is_table(ONE, TABLE[:1]), True)
        self.assertIs(is_table(ONE, TABLE[1:2]), False)

    def test_a_front_within_its_standing_front(self):
        self.assertIs(is_table(Book(), [(BEGIN, Front())]), False)
        self.assertIs(is_table(Book(), [(Front(), Front())]), True)
        self.assertIs(is_table(Book(), [(Front(), BEGIN), (Front(), Front())]), True)
        self.assertIs(is_table(ONE, [(Front(), Front()), (BEGIN, Front([("g",)]))]), False)

    def test_makes_where_all_triggers_are(self):
        book = Book([Saying([("f",), ("g",)], [("h",), ("f", "h")])])
        bottom = (Front(), Front())
        rows = [([("f",)], True), ([("g",)], True), ([("f",), ("g",)], False), ([("f",), ("g",), ("h",)], False),
                ([("f", "h"), ("g",)], False), ([("f", "h"), ("g",), ("h",)], True)]
        for words, closed in rows:
            standing = Front(words)
            table = [bottom, (standing, standing), (Front([("h",)]), Front([("h",)]))]
            self.assertIs(is_table(book, table), closed)
            self.assertIs(is_closed(book, table), closed)

    def test_a_tuple_for_each_letter(self):
        book = Book([UP])
        front, standing = Front([("f", "f")]), Front([("f", "f", "g"), ("f", "g")])
        behind = Front([("f", "g"), ("g",)])
        whole = [(front, standing), (behind, behind), (Front([("g",)]), Front([("g",)])), (Front(), Front())]
        self.assertIs(is_table(book, whole), True)
        # The front of the tuple does not have within it all that stands behind.
        self.assertIs(is_table(book, [whole[0], (Front([("f", "g")]), Front([("f", "g")]))] + whole[2:]), False)
        # What stands there, lifted, is not within the standing front.
        self.assertIs(is_table(book, [whole[0], (behind, behind | Front([("g", "g")]))] + whole[2:]), False)
        self.assertIs(is_table(book, [whole[0], (behind, behind | Front([("h",)]))] + whole[2:]), False)
        # Two tuples do not share what is asked for.
        self.assertIs(is_table(book, [whole[0], (Front([("f", "g")]), Front([("f", "g")])),
                                      (Front([("g",), ("f",)]), behind | Front([("h",)]))] + whole[2:]), False)
        self.assertIs(is_table(book, whole + [(behind, behind | Front([("h",)]))]), True)

    def test_words_of_three_letters_are_not_lifted(self):
        front = Front([("f",)])
        self.assertIs(is_table(Book(), [(front, front), (Front(), Front())]), True)
        self.assertIs(is_table(Book(), [(front, front), (Front(), BEGIN)]), False)
        full = Front([("f", "f", "f")])
        self.assertIs(is_table(Book([Saying([("f",)], [("f", "f")])]), [(BEGIN, full), (Front([("f", "f")]), full)]), True)

    def test_as_the_plain_words_say(self):
        chance = random.Random(56)
        closed = 0
        for book, front in some_pairs(120):
            table = table_of(book, front)
            for _ in range(15):
                told = changed(chance, table)
                found = is_closed(book, told)
                self.assertIs(is_table(book, told), found)
                closed += found
        self.assertGreater(closed, 100)

    def test_what_is_passed_stays(self):
        told = list(TABLE)
        is_table(ONE, told)
        shows(ONE, BEGIN, ("g",), told)
        self.assert_same(told, TABLE)


class ShowsTest(unittest.TestCase, Checks):

    def test_example(self):
        self.assertIs(shows(ONE, BEGIN, ("g",), TABLE), True)
        self.assertIs(shows(ONE, BEGIN, ("f", "g"), TABLE), False)
        self.assertIs(shows(value=tuple(TABLE), word=("g",), front=BEGIN, book=ONE), True)

    def test_a_tuple_with_the_front_within(self):
        self.assertIs(shows(ONE, Front(), ("f",), TABLE), True)
        self.assertIs(shows(ONE, Front(), (), TABLE), False)
        self.assertIs(shows(ONE, Front([("f",), ("g",)]), ("h",), TABLE), False)
        self.assertIs(shows(ONE, Front([("f", "g")]), ("h",), TABLE), False)
        wider = TABLE + [(Front([("f", "g"), ("g",)]), Front([("f", "g"), ("g",)]))]
        self.assertIs(shows(ONE, Front([("f",), ("g",)]), ("h",), wider), True)
        self.assertIs(shows(ONE, Front([("f", "g")]), ("h",), wider), True)
        self.assertIs(shows(ONE, Front([("f", "g")]), ("g",), wider), False)

    def test_it_is_the_standing_front_beside_it(self):
        # Another tuple without the word does not help.
        self.assertIs(shows(ONE, BEGIN, ("f",), TABLE), False)
        self.assertIs(shows(ONE, Front([("g",)]), ("f",), TABLE), True)

    def test_nothing_shows_nothing(self):
        for table in ([], ()):
            self.assertIs(shows(ONE, Front(), ("f",), table), False)

    def test_no_table_shows_nothing(self):
        for table in (TABLE[1:], TABLE[:2], TABLE + [(BEGIN, BEGIN)]):
            self.assertIs(shows(ONE, BEGIN, ("g",), table), False)

    def test_each_word_that_does_not_come_has_one(self):
        for book, front in some_pairs():
            came = coming_words(book, front.words())[frozenset(front.words())]
            for word in all_words("fgh", 2) + [("f", "f", "f"), ("h", "g", "f"), ("x",), ("x", "f"), ("y", "x")]:
                table = table_without(book, front, word)
                if word in came:
                    self.assertIsNone(table)
                    continue
                self.assertIs(type(table), list)
                self.assertIs(shows(book, front, word, table), True)
                self.assertIs(is_shown(book, front, word, table), True)
                self.assert_same(table_without(word=word, front=front, book=book), table)

    def test_none_is_accepted_for_what_comes(self):
        chance = random.Random(57)
        accepted = refused = 0
        for book, front in some_pairs(100):
            came = coming_words(book, front.words())[frozenset(front.words())]
            table = table_of(book, front)
            for _ in range(10):
                told = changed(chance, table)
                for word in [chance.choice(all_words("fgh", 3)) for _ in range(4)] + sorted(came)[-2:]:
                    found = shows(book, front, word, told)
                    self.assertIs(found, is_shown(book, front, word, told))
                    if word in came:
                        self.assertIs(found, False)
                        refused += 1
                    accepted += found
        self.assertGreater(min(accepted, refused), 300)

    def test_returned_lists_are_new(self):
        table_without(ONE, BEGIN, ("g",)).clear()
        self.assertIs(shows(ONE, BEGIN, ("g",), table_without(ONE, BEGIN, ("g",))), True)


if __name__ == "__main__":
    unittest.main()
