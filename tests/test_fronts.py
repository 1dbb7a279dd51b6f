"""Fronts: [2], [12]."""

import itertools
import unittest

from helping import Checks, any_values
from wakesayings.errors import InvalidFront, InvalidLetter, InvalidNumber, InvalidWords, TooMany, UnknownLetter
from wakesayings.fronts import Front
from wakesayings.words import is_letter, is_word


def with_beginnings(words):
    return {word[:many] for word in words for many in range(len(word) + 1)} | {()}


def ordered(words):
    return sorted(words, key=lambda word: (len(word), word))


def some_fronts():
    """All fronts over f and g with words of at most two letters, and some others, with their words."""
    two = list(itertools.product("fg", repeat=2))
    told = []
    for one in [[], [("f",)], [("g",)], [("f",), ("g",)]]:
        for many in range(5):
            told += [one + list(words) for words in itertools.combinations(two, many)]
    told += [[("f", "g", "f")], [("f", "f", "f"), ("g", "f")], [("h", "g", "f"), ("f", "g", "h")], [("abcdefgh",)],
             [("fa", "f"), ("f", "fa")], list(itertools.product("fgh", repeat=3)), [("i", "j", "k"), ("l",)]]
    found = {frozenset(with_beginnings(words)): words for words in told}
    return [(Front(words), set(held)) for held, words in found.items()]


class FrontChecks(Checks):

    def assert_front(self, front, words):
        """That it is a Front of just these words and their beginnings."""
        self.assertIs(type(front), Front)
        self.assert_same(front.words(), ordered(with_beginnings(words)))


class MakingTest(unittest.TestCase, FrontChecks):

    def test_beginnings_are_put_in(self):
        self.assert_same(Front([("f", "g", "f")]).words(), [(), ("f",), ("f", "g"), ("f", "g", "f")])
        self.assert_same(Front([("g", "f"), ("f",)]).words(), [(), ("f",), ("g",), ("g", "f")])

    def test_the_empty_word_is_in_each(self):
        for front in [Front(), Front([]), Front(()), Front([()]), Front(words=[(), ()])]:
            self.assert_same(front.words(), [()])

    def test_equal_and_unsorted_words(self):
        self.assert_same(Front([("g",), ("f", "f"), ("g",), ("fa",)]).words(), [(), ("f",), ("fa",), ("g",), ("f", "f")])

    def test_tuple_for_a_list(self):
        self.assert_same(Front((("f",),)).words(), [(), ("f",)])

    def test_longest_is_three(self):
        self.assert_same(Front.LONGEST, 3)
        self.assert_same(Front().LONGEST, 3)

    def test_no_list(self):
        for value in any_values():
            if not isinstance(value, (list, tuple)):
                self.assert_raises(InvalidWords, {"position": None}, Front, value)
                self.assert_raises(InvalidWords, {"position": None}, Front, words=value)

    def test_first_wrong_word(self):
        wrong = [value for value in any_values() if not is_word(value)]
        for value in wrong:
            for at in range(3):
                told = [("f", "g"), (), ("g",)]
                told[at] = value
                self.assert_raises(InvalidWords, {"position": at}, Front, told)
                self.assert_raises(InvalidWords, {"position": at}, Front, tuple(told))
                self.assert_raises(InvalidWords, {"position": at}, Front, told + wrong)

    def test_a_word_is_no_list_of_words(self):
        self.assert_raises(InvalidWords, {"position": 0}, Front, ("f", "g"))
        self.assert_raises(InvalidWords, {"position": 1}, Front, [("f",), ["g"]])
        self.assert_raises(InvalidWords, {"position": 0}, Front, [("f", "g", "f", "g"), None])

    def test_what_is_passed_is_copied(self):
        told = [("g",), ("f",), ("g",)]
        front = Front(told)
        self.assert_same(told, [("g",), ("f",), ("g",)])
        told.append(("h",))
        told[0] = None
        self.assert_front(front, [("f",), ("g",)])


class FullTest(unittest.TestCase, FrontChecks):

    def test_all_words(self):
        for letters in [[], ["f"], ["g", "f"], ["h", "f", "abcdefgh"], ["f", "f"], ["g", "f", "g", "h", "f", "h"]]:
            for many in range(4):
                words = [word for length in range(many + 1) for word in itertools.product(letters, repeat=length)]
                self.assert_front(Front.full(letters, many), words)
                self.assert_front(Front.full(tuple(letters), many), words)
                self.assert_front(Front.full(many=many, letters=letters), words)

    def test_how_many(self):
        self.assert_same([len(Front.full(["f", "g", "h"], many)) for many in range(4)], [1, 4, 13, 40])
        self.assert_same(len(Front.full([], 3)), 1)
        self.assert_same(len(Front([]).full(["f"], 3)), 4)

    def test_no_list(self):
        for value in any_values():
            if not isinstance(value, (list, tuple)):
                for many in [2, None, 4]:
                    self.assert_invalid(InvalidLetter, None, Front.full, value, many)

    def test_first_wrong_letter(self):
        wrong = [value for value in any_values() if not is_letter(value)]
        for value in wrong:
            for at in range(4):
                told = ["f", "g", "h", "i"]
                told[at] = value
                for many in [2, True]:
                    self.assert_invalid(InvalidLetter, value, Front.full, told, many)
                    self.assert_invalid(InvalidLetter, value, Front.full, tuple(told) + (None, 1), many)

    def test_wrong_number(self):
        for value in any_values():
            if type(value) is int and 0 <= value <= 3:
                continue
            for letters in [["f"], [], ["f", "g", "h", "i"]]:
                self.assert_invalid(InvalidNumber, value, Front.full, letters, value)
                self.assert_invalid(InvalidNumber, value, Front.full, many=value, letters=letters)

    def test_four_different_letters(self):
        for many in range(4):
            self.assert_raises(TooMany, {"what": "letters", "limit": 3}, Front.full, ["f", "g", "h", "i"], many)
            self.assert_raises(TooMany, {"what": "letters", "limit": 3}, Front.full, list("ffggghhhija"), many)

    def test_what_is_passed_stays(self):
        told = ["g", "f", "g"]
        Front.full(told, 2)
        self.assert_same(told, ["g", "f", "g"])


class LookingTest(unittest.TestCase, FrontChecks):

    def test_words_len_letters_longest(self):
        for front, words in some_fronts():
            self.assert_same(front.words(), ordered(words))
            self.assert_same(len(front), len(words))
            self.assert_same(front.letters(), sorted({word[0] for word in words if word}))
            self.assert_same(front.longest, max(len(word) for word in words))

    def test_letters_only_at_the_beginning(self):
        self.assert_same(Front([("f", "g", "h")]).letters(), ["f"])
        self.assert_same(Front([("h",), ("f", "g")]).letters(), ["f", "h"])
        self.assert_same(Front().letters(), [])

    def test_longest(self):
        self.assert_same([Front(words).longest for words in [[], [("f",)], [("f", "f"), ("g",)], [("f", "g", "h")]]],
                         [0, 1, 2, 3])

    def test_in(self):
        for front, words in some_fronts():
            for length in range(5):
                for word in itertools.product("fg", repeat=length):
                    self.assertIs(word in front, word in words)

    def test_any_value_in(self):
        front = Front([("f", "g"), ("g",)])
        found = [value for value in any_values() if value in front]
        self.assert_same(found, [(), ("f",), ("g",), ("f", "g")])
        self.assertIs(["f"] in front, False)
        self.assertIs("f" in front, False)
        self.assertIs(front in front, False)
        self.assertIs(({},) in front, False)

    def test_returned_lists_are_new(self):
        front = Front([("f", "g"), ("g",)])
        front.words().append(("h",))
        front.words().clear()
        front.letters().append("h")
        self.assert_front(front, [("f", "g"), ("g",)])
        self.assert_same(front.letters(), ["f", "g"])
        self.assertIs(("h",) in front, False)

    def test_repr(self):
        self.assert_same(repr(Front([("f", "g")])), "Front([('f',), ('f', 'g')])")
        self.assert_same(repr(Front([("g",), ("f", "g", "f"), ()])), "Front([('f',), ('g',), ('f', 'g'), ('f', 'g', 'f')])")
        self.assert_same(repr(Front()), "Front([])")
        self.assert_same(str(Front([("f",)])), "Front([('f',)])")
        for front, words in some_fronts():
            self.assert_same(repr(front), f"Front({ordered(words)[1:]})")
            self.assertTrue(eval(repr(front)) == front)


class BehindTest(unittest.TestCase, FrontChecks):

    def test_behind_each_letter(self):
        for front, words in some_fronts():
            for letter in front.letters():
                self.assert_front(front // letter, [word[1:] for word in words if word and word[0] == letter])

    def test_nothing_behind(self):
        self.assert_front(Front([("f",)]) // "f", [])

    def test_unknown_letters(self):
        front = Front([("f", "g"), ("fg",)])
        for value in any_values():
            if value not in ("f", "fg"):
                self.assert_invalid(UnknownLetter, value, lambda x: front // x, value)
                self.assert_invalid(UnknownLetter, value, lambda x: Front() // x, value)

    def test_a_letter_that_begins_no_word(self):
        self.assert_invalid(UnknownLetter, "g", lambda x: Front([("f", "g", "h")]) // x, "g")
        self.assert_invalid(UnknownLetter, "h", lambda x: Front([("f", "g", "h")]) // x, "h")


class JoiningTest(unittest.TestCase, FrontChecks):

    def test_either_and_both(self):
        for front, words in some_fronts():
            for other, others in some_fronts():
                self.assert_front(front | other, words | others)
                self.assert_front(front & other, words & others)

    def test_no_front(self):
        front = Front([("f",)])
        for value in any_values():
            if not isinstance(value, Front):
                self.assert_invalid(InvalidFront, value, lambda x: front | x, value)
                self.assert_invalid(InvalidFront, value, lambda x: front & x, value)

    def test_a_new_object_for_the_name(self):
        front = held = Front([("f",)])
        front |= Front([("g",)])
        self.assert_front(held, [("f",)])
        self.assert_front(front, [("f",), ("g",)])


class CutTest(unittest.TestCase, FrontChecks):

    def test_cut(self):
        for front, words in some_fronts():
            for many in [0, 1, 2, 3, 4, 10 ** 40]:
                self.assert_front(front.cut(many), [word for word in words if len(word) <= many])
        self.assert_front(Front([("f", "g", "h")]).cut(0), [])
        self.assert_front(Front([("f", "g", "h")]).cut(many=2), [("f", "g")])

    def test_wrong_number(self):
        for value in any_values():
            if type(value) is not int or value < 0:
                self.assert_invalid(InvalidNumber, value, Front([("f",)]).cut, value)
                self.assert_invalid(InvalidNumber, value, Front([("f",)]).cut, many=value)

    def test_the_front_stays(self):
        front = Front([("f", "g")])
        front.cut(1)
        self.assert_front(front, [("f", "g")])


class LiftedTest(unittest.TestCase, FrontChecks):

    def test_lifted(self):
        for front, words in some_fronts():
            for letter in ["f", "g", "x", "abcdefgh"]:
                self.assert_front(front.lifted(letter), [(letter, *word) for word in words if len(word) <= 2])

    def test_longest_words_are_left_out(self):
        self.assert_front(Front([("f", "g", "h")]).lifted("k"), [("k", "f", "g")])
        self.assert_front(Front().lifted(letter="k"), [("k",)])

    def test_wrong_letter(self):
        for value in any_values():
            if not is_letter(value):
                self.assert_invalid(InvalidLetter, value, Front([("f",)]).lifted, value)
                self.assert_invalid(InvalidLetter, value, Front().lifted, letter=value)


class ComparingTest(unittest.TestCase, FrontChecks):

    def test_all_pairs(self):
        for front, words in some_fronts():
            for other, others in some_fronts():
                self.assertIs(front.is_within(other), words <= others)
                before = (len(words), ordered(words)) < (len(others), ordered(others))
                self.assertIs(front.is_before(other), before)
                self.assertIs(front == other, words == others)
                self.assertIs(front != other, words != others)

    def test_order(self):
        rows = [
            [], [("a",)], [("z",)],
            # Words of one front are compared as tuples here, so f.z stands ahead of g.
            [("f", "f")], [("f", "z")], [("f",), ("g",)], [("f",), ("z",)], [("g", "a")],
            [("f", "a", "a")], [("f", "a"), ("f", "b")], [("f", "a"), ("g",)], [("g", "a"), ("f",)],
        ]
        for low, words in enumerate(rows):
            for high, others in enumerate(rows):
                self.assertIs(Front(words).is_before(Front(others)), low < high, (words, others))

    def test_by_name(self):
        self.assertIs(Front().is_within(other=Front([("f",)])), True)
        self.assertIs(Front().is_before(other=Front([("f",)])), True)

    def test_no_front(self):
        for value in any_values():
            if not isinstance(value, Front):
                for front in [Front(), Front([("f",)])]:
                    self.assert_invalid(InvalidFront, value, front.is_within, value)
                    self.assert_invalid(InvalidFront, value, front.is_before, value)
                    self.assert_invalid(InvalidFront, value, front.is_before, other=value)
                    self.assert_invalid(InvalidFront, value, front.is_within, other=value)

    def test_equal_only_to_fronts(self):
        front = Front([("f",)])
        for value in any_values() + [front.words(), tuple(front.words()), repr(front), {(): True, ("f",): True}]:
            if not isinstance(value, Front):
                self.assertIs(front == value, False)
                self.assertIs(value == front, False)
                self.assertIs(front != value, True)

    def test_equal_whatever_was_told(self):
        self.assertTrue(Front([("g",), ("f", "g")]) == Front((("f", "g"), ("f",), ("g",), (), ("g",))))


if __name__ == "__main__":
    unittest.main()
