"""Letters, words, their beginnings, order and texts: [2], [11], [91] as far as words go."""

import itertools
import re
import unittest

from helping import Checks, any_values, is_same
from wakesayings.errors import InvalidText, InvalidWord, InvalidWords
from wakesayings.words import beginnings, in_order, is_letter, is_word, joined, read_word, text_of_word

SOME = [(), ("f",), ("g",), ("abcdefgh",), ("f", "g"), ("g", "f"), ("f", "f", "f"), ("f", "g", "h")]


def plainly_letter(value):
    return type(value) is str and re.fullmatch("[a-z]{1,8}", value) is not None and "\n" not in value


def plainly_word(value):
    return type(value) is tuple and len(value) <= 3 and all(plainly_letter(part) for part in value)


def no_words():
    return [value for value in any_values() if not plainly_word(value)]


class KindsTest(unittest.TestCase, Checks):

    def test_letters(self):
        for value in ["a", "z", "f", "az", "abcdefgh", "zzzzzzzz"]:
            self.assertIs(is_letter(value), True)
        for value in ["", "abcdefghi", "A", "fG", "f1", "1", "f g", " ", "f.", "-", "f\n", "\n", "`", "{", "f_", "a~"]:
            self.assertIs(is_letter(value), False, value)

    def test_each_single_sign(self):
        for sign in map(chr, [10, *range(32, 127)]):
            self.assertIs(is_letter(sign), "a" <= sign <= "z", sign)
            self.assertIs(is_letter("f" + sign), "a" <= sign <= "z", sign)
            self.assertIs(is_letter(sign + "f"), "a" <= sign <= "z", sign)

    def test_lengths_of_letters(self):
        for many in range(12):
            self.assertIs(is_letter("f" * many), 1 <= many <= 8)

    def test_any_values(self):
        for value in any_values():
            self.assertIs(is_letter(value), plainly_letter(value), value)
            self.assertIs(is_word(value), plainly_word(value), value)

    def test_words(self):
        for word in SOME:
            self.assertIs(is_word(word), True)
        for value in [("f",) * 4, ("f", "g", "h", "f"), ["f"], "f", ("f", "abcdefghi"), ("f", True), (1,), (("f",),)]:
            self.assertIs(is_word(value), False, value)

    def test_each_place_of_a_word_is_looked_at(self):
        for at in range(3):
            for wrong in [None, True, 0, "", "F", ("f",), ["f"], {}]:
                parts = ["f", "g", "h"]
                parts[at] = wrong
                self.assertIs(is_word(tuple(parts)), False, parts)

    def test_by_name(self):
        self.assertIs(is_letter(value="f"), True)
        self.assertIs(is_word(value=("f",)), True)


class BeginningsTest(unittest.TestCase, Checks):

    def test_ordinary(self):
        self.assert_same(beginnings(("f", "g", "h")), [(), ("f",), ("f", "g"), ("f", "g", "h")])
        self.assert_same(beginnings(("f", "f")), [(), ("f",), ("f", "f")])
        self.assert_same(beginnings(word=("g",)), [(), ("g",)])

    def test_of_the_empty_word(self):
        self.assert_same(beginnings(()), [()])

    def test_wrong_words(self):
        for value in no_words():
            self.assert_invalid(InvalidWord, value, beginnings, value)
            self.assert_invalid(InvalidWord, value, beginnings, word=value)

    def test_new_each_time(self):
        beginnings(("f",)).append("x")
        self.assert_same(beginnings(("f",)), [(), ("f",)])


class InOrderTest(unittest.TestCase, Checks):

    def test_shorter_ones_first_then_as_tuples(self):
        told = [("f", "g"), ("g",), ("aa", "f", "f"), (), ("b",), ("aa",), ("f", "aa"), ("f", "f")]
        found = [(), ("aa",), ("b",), ("g",), ("f", "aa"), ("f", "f"), ("f", "g"), ("aa", "f", "f")]
        self.assert_same(in_order(told), found)

    def test_all_sequences(self):
        words = [("g",), ("f", "f"), ("fa",), ()]
        for told in itertools.permutations(words):
            self.assert_same(in_order(list(told)), [(), ("fa",), ("g",), ("f", "f")])

    def test_equal_ones_once(self):
        self.assert_same(in_order([("g",), ("f",), ("g",), ("f",), ("f",)]), [("f",), ("g",)])

    def test_empty_and_tuples(self):
        self.assert_same(in_order([]), [])
        self.assert_same(in_order(()), [])
        self.assert_same(in_order((("g",), ("f",))), [("f",), ("g",)])
        self.assert_same(in_order(words=[()]), [()])

    def test_no_beginnings_are_put_in(self):
        self.assert_same(in_order([("f", "g", "h")]), [("f", "g", "h")])

    def test_no_list(self):
        for value in any_values():
            if not isinstance(value, (list, tuple)):
                self.assert_raises(InvalidWords, {"position": None}, in_order, value)

    def test_first_wrong_element(self):
        for value in no_words():
            for at in range(3):
                told = [("f",), ("f",), ("g",)]
                told[at] = value
                self.assert_raises(InvalidWords, {"position": at}, in_order, told)
                self.assert_raises(InvalidWords, {"position": at}, in_order, tuple(told))
                self.assert_raises(InvalidWords, {"position": at}, in_order, words=told + no_words())

    def test_a_word_is_no_list_of_words(self):
        self.assert_raises(InvalidWords, {"position": 0}, in_order, ("f", "g"))
        self.assert_raises(InvalidWords, {"position": 1}, in_order, [("f",), "g"])

    def test_what_is_passed_stays(self):
        told = [("g",), ("f",), ("g",)]
        found = in_order(told)
        self.assert_same(told, [("g",), ("f",), ("g",)])
        found.append(None)
        self.assert_same(told, [("g",), ("f",), ("g",)])
        self.assert_same(in_order(told), [("f",), ("g",)])
        sorted_already = [("f",), ("g",)]
        in_order(sorted_already).append(None)
        self.assert_same(sorted_already, [("f",), ("g",)])


class JoinedTest(unittest.TestCase, Checks):

    def test_all_pairs(self):
        for word in SOME:
            for next_word in SOME:
                both = (*word, *next_word)
                if len(both) <= 3:
                    self.assert_same(joined(word, next_word), both)
                else:
                    self.assert_invalid(InvalidWord, both, joined, word, next_word)

    def test_sequence_and_names(self):
        self.assert_same(joined(("f",), ("g", "h")), ("f", "g", "h"))
        self.assert_same(joined(next_word=("f",), word=("g", "h")), ("g", "h", "f"))
        self.assert_same(joined((), ()), ())

    def test_wrong_words(self):
        for value in no_words():
            self.assert_invalid(InvalidWord, value, joined, value, ("f",))
            self.assert_invalid(InvalidWord, value, joined, ("f",), value)
            self.assert_invalid(InvalidWord, value, joined, ("f", "g", "h"), value)
            self.assert_invalid(InvalidWord, value, joined, value, ("f", "g", "h"))

    def test_two_wrong_ones(self):
        for value in no_words():
            for other in no_words():
                self.assert_invalid(InvalidWord, value, joined, value, other)
            self.assert_invalid(InvalidWord, value, joined, next_word=None, word=value)


class TextsTest(unittest.TestCase, Checks):

    def test_texts(self):
        self.assert_same(text_of_word(("f", "g", "h")), "f.g.h")
        self.assert_same(text_of_word(("abcdefgh", "f")), "abcdefgh.f")
        self.assert_same(text_of_word(word=("f",)), "f")
        self.assert_same(text_of_word(()), "-")

    def test_read(self):
        self.assert_same(read_word("f.g.h"), ("f", "g", "h"))
        self.assert_same(read_word("abcdefgh"), ("abcdefgh",))
        self.assert_same(read_word(text="f.f"), ("f", "f"))
        self.assert_same(read_word("-"), ())

    def test_there_and_back(self):
        for word in SOME:
            self.assert_same(read_word(text_of_word(word)), word)

    def test_all_short_texts(self):
        texts = {text_of_word(word): word for many in range(4) for word in itertools.product(["f", "g", "ff"], repeat=many)}
        for many in range(6):
            for signs in itertools.product("fg.-", repeat=many):
                text = "".join(signs)
                if text in texts:
                    self.assert_same(read_word(text), texts[text])
                elif not re.fullmatch(r"[fg]+(\.[fg]+){0,2}", text):
                    self.assert_raises(InvalidText, {"line": 1}, read_word, text)

    def test_wrong_words(self):
        for value in no_words():
            self.assert_invalid(InvalidWord, value, text_of_word, value)
            self.assert_invalid(InvalidWord, value, text_of_word, word=value)

    def test_wrong_texts(self):
        wrong = ["", ".", "f.", ".f", "f..g", "f.g.h.f", "F", "f.G", "f g", " f", "f ", "f\n", "\nf", "f.\ng", "--",
                 "-.f", "f.-", "-\n", "abcdefghi", "f.abcdefghi", "f1", "()", "f,g", "f" * 20000, "f." * 9999 + "f"]
        for text in wrong:
            self.assert_raises(InvalidText, {"line": 1}, read_word, text)
            self.assert_raises(InvalidText, {"line": 1}, read_word, text=text)

    def test_no_texts(self):
        for value in any_values():
            if type(value) is not str:
                self.assert_raises(InvalidText, {"line": 1}, read_word, value)

    def test_any_value_that_is_read_has_this_text(self):
        read = [value for value in any_values() if self.is_read(value)]
        self.assertTrue(is_same(sorted(read), ["-", "abcdefgh", "abcdefgh.f", "f", "f.g", "f.g.h", "fg", "g"]), read)

    def is_read(self, value):
        try:
            return text_of_word(read_word(value)) == value
        except InvalidText:
            return False


if __name__ == "__main__":
    unittest.main()
