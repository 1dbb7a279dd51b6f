"""Texts of books, webs and terms: [2], [91]."""

import itertools
import random
import unittest

from helping import (
    MANY, UP, Checks, any_values, error_of, no_terms, not_of, plain_letter, plain_term, random_book, random_web,
    some_books, some_webs,
)
from wakesayings.books import Book
from wakesayings.errors import InvalidEntry, InvalidText, TooMany
from wakesayings.fronts import Front
from wakesayings.sayings import Saying
from wakesayings.texts import read_book, read_term, read_web, text_of, text_of_term
from wakesayings.webs import Web

WEB = Web(["b"], [("a", "f")], [(("a", "f", "f"), ("a",)), (("b",), ("a",))])
WEB_TEXT = "thing a\nthing b\nterm a.f\nequal b a\nequal a.f.f a\n"
BOOK_TEXT = "saying f -> f.g\nsaying f g -> g h.f.g f.f\n"


def order(term):
    return len(term), term


def plain_text_of_web(web):
    rows = [f"thing {thing}" for thing in web.things()]
    rows += ["term " + ".".join(term) for term in web.knots() if len(term) > 1]
    rows += ["equal " + ".".join(one) + " " + ".".join(least) for one, least in web.pairs()]
    return "".join(row + "\n" for row in rows)


def plain_text_of_sayings(sayings):
    def told(words):
        return " ".join(".".join(word) for word in sorted(words, key=order))
    return "".join(f"saying {told(saying.triggers())} -> {told(saying.makes())}\n" for saying in sayings)


def begins_a_web(lines):
    """Whether the lines are the text of a web of whatever size, by making the web of all that they tell."""
    things, terms, pairs = [], [], []
    for line in lines:
        parts = line.split(" ")
        told = [tuple(part.split(".")) for part in parts[1:]]
        if not all(plain_term(term) for term in told):
            return False
        if parts[0] == "thing" and len(told) == 1 and len(told[0]) == 1:
            things.append(told[0][0])
        elif parts[0] == "term" and len(told) == 1:
            terms.append(told[0])
        elif parts[0] == "equal" and len(told) == 2:
            pairs.append(tuple(told))
        else:
            return False
    return plain_text_of_web(Web(things, terms, pairs)) == "".join(line + "\n" for line in lines)


def first_wrong_line(text, begins):
    """The number of the first wrong line; None if all are right."""
    lines = text.split("\n")
    for many in range(1, len(lines)):
        if not begins(lines[:many]):
            return many
    return len(lines) if lines[-1] else None


def begins_a_book(lines):
    sayings = []
    for line in lines:
        head, _, tail = line.partition(" -> ")
        try:
            sayings.append(Saying([tuple(part.split(".")) for part in head.split(" ")[1:]],
                                  [tuple(part.split(".")) for part in tail.split(" ")]))
        except ValueError:
            return False
    return plain_text_of_sayings(sayings) == "".join(line + "\n" for line in lines)


def changed_text(chance, text):
    """The text with a line or a sign changed."""
    lines = text.split("\n")
    way = chance.randrange(9)
    at = chance.randrange(len(lines))
    if way == 0:
        del lines[at]
    elif way == 1:
        lines.insert(chance.randrange(len(lines)), lines[at])
    elif way == 2:
        lines.insert(chance.randrange(len(lines)), lines.pop(at))
    elif way == 3:
        parts = lines[at].split(" ")
        chance.shuffle(parts)
        lines[at] = " ".join(parts)
    elif way == 4 and text:
        place = chance.randrange(len(text))
        return text[:place] + chance.choice("fga. \n->F") + text[place + chance.randrange(2):]
    elif way == 5:
        lines[at] = chance.choice(["thing a", "thing b", "term a.f", "term b.f", "equal b a", "equal a.f a",
                                   "equal b.f a", "saying f -> g", "saying g f -> g", "", "thing a.f", "term a"])
    elif way == 6:
        parts = lines[at].split(" ")
        parts[chance.randrange(len(parts))] = chance.choice(["a", "b", "a.f", "b.f", "a.f.g", "a.g", "c", "a.f.f", "f.g"])
        lines[at] = " ".join(parts)
    elif way == 7:
        return text + chance.choice(["\n", " ", "thing z", "equal z a\n", "saying f -> g\n", "x"])
    else:
        return text[:-1]
    return "\n".join(lines)


class TermTest(unittest.TestCase, Checks):

    def test_examples(self):
        for term, text in [(("a",), "a"), (("a", "f", "g"), "a.f.g"), (("abcdefgh", "z"), "abcdefgh.z"),
                           (("a",) + ("f",) * 29, "a" + ".f" * 29)]:
            self.assert_same(text_of_term(term), text)
            self.assert_same(text_of_term(term=term), text)
            self.assert_same(read_term(text), term)
            self.assert_same(read_term(text=text), term)

    def test_what_is_no_text_of_a_term(self):
        values = any_values() + ["a.", ".a", "a..f", "a b", " a", "a ", "a\n", "\na", "A", "a.F", "a1", "abcdefghi",
                                 "a.abcdefghi", "-", "a.-", "a,f", "", ".", "a.f.g\n"]
        for value in values:
            if type(value) is str and all(plain_letter(part) for part in value.split(".")):
                self.assert_same(read_term(value), tuple(value.split(".")))
            else:
                self.assert_raises(InvalidText, {"line": 1}, read_term, value)

    def test_wrong_parameters(self):
        self.assert_parameters(text_of_term, {"term": ("a",)}, {"term": no_terms()})


class TextTest(unittest.TestCase, Checks):

    def test_examples(self):
        self.assert_same(text_of(Book([UP])), "saying f -> f.g\n")
        self.assert_same(text_of(WEB), WEB_TEXT)
        self.assert_same(text_of(Book([UP, Saying([("g",), ("f",)], [("h", "f", "g"), ("g",), ("f", "f")])])),
                         "saying f -> f.g\nsaying f g -> g f.f h.f.g\n")
        self.assert_same([text_of(Book()), text_of(entry=Web())], ["", ""])
        self.assertEqual([read_book(""), read_web("")], [Book(), Web()])

    def test_all_told_ones_are_read_again(self):
        chance = random.Random(91)
        for book in some_books() + [random_book(chance, 6) for _ in range(60)]:
            text = text_of(book)
            self.assert_same(text, plain_text_of_sayings(book.sayings()))
            self.assert_same(text_of(entry=book), text)
            self.assertEqual(read_book(text), book)
            self.assertEqual(read_book(text=text), book)
            self.assertEqual(repr(read_book(text)), repr(book))
        for web in some_webs() + [random_web(chance, chance.choice(["fg", "fgh"]), 5) for _ in range(200)]:
            text = text_of(web)
            self.assert_same(text, plain_text_of_web(web))
            self.assertEqual(read_web(text), web)
            self.assertEqual(read_web(text=text), web)
            self.assertEqual(repr(read_web(text)), repr(web))

    def test_other_entries(self):
        values = not_of((Book, Web), InvalidEntry) + [(Front([("f",)]), InvalidEntry, {"value": Front([("f",)])})]
        for value, kind, parts in values:
            self.assert_raises(kind, parts, text_of, value)
            self.assert_raises(kind, parts, text_of, entry=value)

    def test_no_strings(self):
        for value in any_values():
            if type(value) is not str:
                for action in (read_book, read_web):
                    self.assert_raises(InvalidText, {"line": 0}, action, value)
                    self.assert_raises(InvalidText, {"line": 0}, action, text=value)


class ReadBookTest(unittest.TestCase, Checks):

    def assert_wrong(self, text, line):
        self.assert_raises(InvalidText, {"line": line}, read_book, text)

    def test_lines(self):
        good = "saying f -> f.g\n"
        self.assertEqual(read_book(good * 2), Book([UP, UP]))
        rows = [
            "", " ", "saying", "saying ", "saying f", "saying f ->", "saying f -> ", "saying -> f", "saying  -> f", "-> f",
            "f -> g", "saying f g", "saying f -> g ", " saying f -> g", "saying  f -> g", "saying f  -> g",
            "saying f -> g  h", "saying f->g", "saying f -> -> g", "saying f -> g -> h", "Saying f -> g", "says f -> g",
            "saying f => g", "saying f - > g", "saying - -> g", "saying f -> -", "saying f.g.h.f -> g", "saying F -> g",
            "saying f -> g1", "saying f. -> g", "saying f..g -> g", "saying .f -> g", "saying abcdefghi -> g",
            "saying g f -> g", "saying f.g f -> g", "saying f -> h g", "saying f f -> g", "saying f -> g g",
            "saying f g h f.g -> g", "saying f -> f g h f.g", "thing a", "term a.f", "saying f -> g\t", "saying f -> a b a",
        ]
        for row in rows:
            self.assert_wrong(row + "\n", 1)
            self.assert_wrong(good + row + "\n", 2)
            self.assert_wrong(good * 3 + row + "\n" + good, 4)
            self.assert_wrong(good + row + "\n" + rows[2], 2)

    def test_the_last_line_feed(self):
        self.assert_wrong("saying f -> f.g", 1)
        self.assert_wrong("saying f -> f.g\nsaying f -> f.g", 2)
        self.assert_wrong("saying f -> f.g\nsay", 2)
        self.assert_wrong("saying f -> f.g\n ", 2)
        self.assert_wrong("saying f -> f.g\n\n", 2)
        self.assert_wrong("\n", 1)
        self.assert_wrong("saying f -> \nsaying f -> f.g", 1)

    def test_too_many(self):
        good = "saying f -> f.g\n"
        self.assertEqual(read_book(good * 6), Book([UP] * 6))
        self.assert_too_many("sayings", 6, read_book, good * 7)
        self.assert_too_many("letters", 3, read_book, good + "saying h -> x\n")
        self.assert_too_many("letters", 3, read_book, "saying a b c -> d\n")
        self.assert_too_many("sayings", 6, read_book, good * 6 + "saying a b c -> d\n")
        # Only behind all lines.
        self.assert_wrong(good * 7 + "saying f\n", 8)
        self.assert_wrong("saying a b c -> d\nsaying f -> f.g", 2)
        self.assert_wrong(good * 200 + " \n", 201)

    def test_changed_texts(self):
        chance = random.Random(92)
        told = {True: 0, False: 0}
        for book in (some_books() + [random_book(chance, 6) for _ in range(50)]) * 4:
            text = changed_text(chance, text_of(book))
            if chance.random() < 0.3:
                text = changed_text(chance, text)
            line = first_wrong_line(text, begins_a_book)
            if line is not None:
                self.assert_wrong(text, line)
            else:
                error = error_or_none(read_book, text)
                self.assertTrue(error is None or type(error) is TooMany)
                if error is None:
                    self.assert_same(text_of(read_book(text)), text)
            told[line is None] += 1
        self.assertGreater(min(told.values()), 50)


def error_or_none(action, *told):
    try:
        action(*told)
    except Exception as error:
        return error
    return None


class ReadWebTest(unittest.TestCase, Checks):

    def assert_wrong(self, text, line):
        self.assert_raises(InvalidText, {"line": line}, read_web, text)
        self.assertEqual(first_wrong_line(text, begins_a_web), line)

    def test_lines(self):
        rows = [
            "", " ", "thing", "thing ", "thing A", "thing a1", "thing a b", "thing a ", " thing z", "thing  z", "things z",
            "Thing z", "thing abcdefghi", "term", "term a", "term a.f ", "term  a.f", "term a.F", "term a..f", "term a.f b.f",
            "equal", "equal b", "equal b ", "equal b a a", "equal  b a", "equal b  a", "equal a.f.f a ", "equal B a",
            "equal b -", "same b a", "saying f -> g", "thing -", "term -",
        ]
        for row in rows:
            self.assert_wrong(row + "\n", 1)
            self.assert_wrong("thing a\nthing b\n" + row + "\n", 3)
            self.assert_wrong("thing a\nthing b\n" + row + "\nterm a.f\n", 3)

    def test_things(self):
        self.assertEqual(read_web("thing a\nthing b\n"), Web(["a", "b"]))
        self.assert_wrong("thing b\nthing a\n", 2)
        self.assert_wrong("thing a\nthing a\n", 2)
        self.assert_wrong("thing ab\nthing b\nthing abc\n", 3)
        self.assert_wrong("thing a\nterm a.f\nthing b\n", 3)
        self.assert_wrong("thing a\nthing b\nequal b a\nthing c\n", 4)

    def test_terms(self):
        self.assertEqual(read_web("thing a\nterm a.f\nterm a.g\nterm a.f.f\n"), Web([], [("a", "f", "f"), ("a", "g")]))
        self.assert_wrong("term a.f\n", 1)
        self.assert_wrong("thing a\nterm b.f\n", 2)
        self.assert_wrong("thing a\nterm a.f.f\n", 2)
        self.assert_wrong("thing a\nterm a.g\nterm a.f\n", 3)
        self.assert_wrong("thing a\nterm a.f\nterm a.f\n", 3)
        self.assert_wrong("thing a\nterm a.f\nterm a.f.f\nterm a.g\n", 4)
        self.assert_wrong("thing a\nterm a.f\nequal a.g a\nterm a.h\n", 4)
        self.assert_wrong("thing a\nterm a.f\nterm a.g.f\n", 3)
        self.assert_wrong("thing a\nterm a\n", 2)

    def test_pairs(self):
        self.assertEqual(read_web(WEB_TEXT), WEB)
        rows = [
            # A thing that lacks, is itself, is less than the other one, or is not alone.
            ("thing a\nthing b\nequal c a\n", 3), ("thing a\nthing b\nequal b c\n", 3), ("thing a\nequal a a\n", 2),
            ("thing a\nthing b\nequal a b\n", 3), ("thing a\nthing b\nterm b.f\nequal b a\n", 4),
            ("thing a\nthing b\nterm a.f\nequal b a.f\n", 4),
            # The second one is not the least term of a knot any more.
            ("thing a\nthing b\nthing c\nequal b a\nequal c b\n", 5),
            ("thing a\nthing b\nequal b a\nequal a.f b\n", 4), ("thing a\nterm a.f\nequal a.f.f a.f.f\n", 3),
            ("thing a\nequal a.f a.f\n", 2), ("thing a\nequal a.f a.g\n", 2), ("thing a\nequal a.f b\n", 2),
            # The first one is a least term, or leads from none, or is less than the second one.
            ("thing a\nterm a.f\nequal a.f a\n", 3), ("thing a\nequal a.f.f a\n", 2), ("thing a\nequal b.f a\n", 2),
            ("thing a\nthing b\nequal b a\nequal b.f a\n", 4), ("thing a\nterm a.f\nterm a.f.f\nequal a.g a.f.f\n", 4),
            ("thing a\nterm a.g\nequal a.f a.g\n", 3), ("thing a\nequal a.f a\nequal a.f.g a\n", 3),
            # The sequence, and the same one twice.
            ("thing a\nequal a.g a\nequal a.f a\n", 3), ("thing a\nequal a.f a\nequal a.f a\n", 3),
            ("thing a\nthing b\nequal a.f a\nequal b a\n", 4), ("thing a\nthing b\nthing c\nequal c a\nequal b a\n", 5),
            ("thing a\nthing b\nequal b.f a\nequal b.f b\n", 4),
        ]
        for text, line in rows:
            self.assert_wrong(text, line)
            self.assert_wrong(text + "thing z\n", line)
            begun = text[:text[:-1].rfind("\n") + 1]
            self.assert_same(text_of(read_web(begun)), begun)

    def test_pairs_told_otherwise(self):
        # The same web, but with other terms of the knots.
        self.assert_wrong("thing a\nthing b\nterm b.f\nequal b a\nequal b.f.f b\n", 4)
        self.assert_wrong("thing a\nthing b\nterm a.f\nequal b a\nequal a.f.f b\n", 5)
        self.assert_wrong("thing a\nthing b\nterm a.f\nequal a.f.f a\nequal b a\n", 5)
        self.assert_wrong("thing a\nthing b\nterm a.f\nequal a b\n", 4)
        self.assert_wrong("thing a\nthing b\nterm a.f\nequal b a\nequal a.f.f a\nequal a.f.f.f a.f\n", 6)

    def test_each_beginning_is_a_text(self):
        chance = random.Random(93)
        for web in some_webs() + [random_web(chance) for _ in range(40)]:
            lines = text_of(web).split("\n")[:-1]
            for many in range(len(lines) + 1):
                text = "".join(line + "\n" for line in lines[:many])
                self.assert_same(text_of(read_web(text)), text)
                if text:
                    self.assert_raises(InvalidText, {"line": many}, read_web, text[:-1])

    def test_the_last_line_feed(self):
        self.assert_wrong("thing a", 1)
        self.assert_wrong("thing a\nthing b", 2)
        self.assert_wrong("thing a\nth", 2)
        self.assert_wrong("thing a\n\n", 2)
        self.assert_wrong("thing b\nthing a\nthing c", 2)
        self.assert_wrong("\n", 1)

    def test_too_many(self):
        def things(many):
            names = sorted("".join(row) for row in itertools.product("abcdefgh", repeat=3))
            return "".join(f"thing {name}\n" for name in names[:many])
        self.assert_same(len(read_web(things(400))), 400)
        self.assert_too_many("knots", 400, read_web, things(401))
        self.assert_too_many("knots", 400, read_web, things(400) + "term aaa.f\n")
        self.assert_same(len(read_web(things(401) + "equal aab aaa\n")), 400)
        self.assert_same(len(read_web(things(399) + "term aaa.f\nequal aaa.g aaa\n")), 400)
        self.assert_raises(InvalidText, {"line": 402}, read_web, things(401) + "thing a\n")
        self.assert_raises(InvalidText, {"line": 512}, read_web, things(512)[:-1])
        chain = "thing a\n" + "".join("term a" + ".f" * many + "\n" for many in range(1, 29))
        self.assert_same(len(read_web(chain)), 29)

    def test_changed_texts(self):
        chance = random.Random(94)
        told = {True: 0, False: 0}
        for web in (some_webs() + [random_web(chance, "fg", 3) for _ in range(100)]) * 6:
            text = changed_text(chance, text_of(web))
            if chance.random() < 0.3:
                text = changed_text(chance, text)
            line = first_wrong_line(text, begins_a_web)
            if line is not None:
                self.assert_raises(InvalidText, {"line": line}, read_web, text)
            else:
                self.assert_same(text_of(read_web(text)), text)
            told[line is None] += 1
        self.assertGreater(min(told.values()), 60)

    def test_all_short_texts(self):
        # Of a few lines each row of at most four is read just if it is a text.
        lines = ["thing a", "thing b", "term a.f", "term b.f", "equal b a", "equal a.f a", "equal b.f a", "equal b.f a.f",
                 "equal a.f b"]
        right = 0
        for many in range(1, 5):
            for row in itertools.product(lines, repeat=many):
                if many < 3 or row[0] == "thing a":
                    text = "".join(line + "\n" for line in row)
                    wrong_one = first_wrong_line(text, begins_a_web)
                    if wrong_one is None:
                        right += 1
                        self.assert_same(text_of(read_web(text)), text)
                    else:
                        self.assert_raises(InvalidText, {"line": wrong_one}, read_web, text)
        self.assertGreater(right, 15)

    def test_texts_of_the_other_kind(self):
        self.assert_wrong(text_of(Book([MANY])), 1)
        self.assert_raises(InvalidText, {"line": 1}, read_book, WEB_TEXT)


if __name__ == "__main__":
    unittest.main()
