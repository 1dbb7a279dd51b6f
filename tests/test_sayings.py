"""Sayings: [2], [21]."""

import itertools
import unittest

from helping import Checks, any_values, no_lists, plain_word
from wakesayings.errors import InvalidMakes, InvalidTriggers
from wakesayings.fronts import Front
from wakesayings.sayings import Saying

GOOD = [("f",), ("f", "g")]


def ordered(words):
    return sorted(words, key=lambda word: (len(word), word))


def wrong_lists():
    """Rows (value, position that the error tells)."""
    rows = [(value, None) for value in no_lists()]
    rows += [([], None), ((), None), ([("f",), ("g",), ("h",), ("f", "f")], None), ((None, None, None, None), None),
             ((("f",), ("f",), ("f",), ("f",)), None)]
    wrong = [value for value in any_values() if not plain_word(value) or not value]
    for value in wrong:
        for at in range(3):
            told = [("f",), ("f", "g"), ("g", "f", "g")]
            told[at] = value
            rows += [(told, at), (tuple(told), at), (told[:at + 1], at)]
    for low, high in itertools.combinations(range(3), 2):
        told = [("f",), ("f", "g"), ("g", "f", "g")]
        told[high] = told[low]
        rows += [(told, high), (tuple(told), high), (told[:high] + [told[high]], high)]
    return rows + [
        ([("f",), ("f",), None], 1), ([None, ("f",), ("f",)], 0), ([("f",), None, ("f",)], 1), ([(), ()], 0),
        (("f", "g"), 0), (("f",), 0), ([["f"]], 0), ([("f",), ["f"]], 1), ([("f", "g", "f", "g")], 0),
        ([("f",), ("g",), ("g",)], 2), ([("f", "g"), ("g", "f"), ("f", "g")], 2),
    ]


class MakingTest(unittest.TestCase, Checks):

    def test_one_two_and_three(self):
        words = [("f",), ("g", "f"), ("f", "g", "h"), ("abcdefgh",), ("h", "h", "h")]
        for many in (1, 2, 3):
            for triggers in itertools.permutations(words, many):
                for makes in ([("g",)], [("h",), ("g", "f"), ("g",)]):
                    saying = Saying(triggers, makes)
                    self.assert_same(saying.triggers(), ordered(triggers))
                    self.assert_same(saying.makes(), ordered(makes))
                    turned = Saying(makes, list(triggers))
                    self.assert_same(turned.triggers(), ordered(makes))
                    self.assert_same(turned.makes(), ordered(triggers))

    def test_by_name(self):
        saying = Saying(makes=(("g",),), triggers=(("f",),))
        self.assert_same([saying.triggers(), saying.makes()], [[("f",)], [("g",)]])

    def test_a_trigger_that_begins_another_stays(self):
        saying = Saying([("f", "g"), ("f",)], [("g",)])
        self.assert_same(saying.triggers(), [("f",), ("f", "g")])
        self.assertFalse(saying == Saying([("f", "g")], [("g",)]))

    def test_a_make_that_is_a_trigger(self):
        self.assert_same(Saying([("f",)], [("f",)]).makes(), [("f",)])

    def test_most(self):
        self.assert_same(Saying.MOST, 3)
        self.assert_same(Saying([("f",)], [("g",)]).MOST, 3)

    def test_wrong_triggers(self):
        for value, position in wrong_lists():
            for makes in [GOOD, None, [], [("f",), ("f",)]]:
                self.assert_raises(InvalidTriggers, {"position": position}, Saying, value, makes)
            self.assert_raises(InvalidTriggers, {"position": position}, Saying, makes=GOOD, triggers=value)

    def test_wrong_makes(self):
        for value, position in wrong_lists():
            self.assert_raises(InvalidMakes, {"position": position}, Saying, GOOD, value)
            self.assert_raises(InvalidMakes, {"position": position}, Saying, makes=value, triggers=GOOD)

    def test_what_is_passed_is_copied(self):
        triggers, makes = [("g",), ("f",)], [("h", "f"), ("h",)]
        saying = Saying(triggers, makes)
        self.assert_same([triggers, makes], [[("g",), ("f",)], [("h", "f"), ("h",)]])
        triggers.append(("h",))
        makes[0] = None
        self.assert_same([saying.triggers(), saying.makes()], [[("f",), ("g",)], [("h",), ("h", "f")]])


class LookingTest(unittest.TestCase, Checks):

    def test_returned_lists_are_new(self):
        saying = Saying([("f",)], [("g",)])
        for method in (saying.triggers, saying.makes, saying.letters, saying.make_letters):
            before = method()
            method().append("x")
            method().clear()
            self.assert_same(method(), before)
        self.assert_same(repr(saying), "Saying([('f',)], [('g',)])")
        self.assert_same(saying.make_front(), Front([("g",)]))

    def test_letters(self):
        saying = Saying([("g",), ("f", "g")], [("h", "fa", "h"), ("h",)])
        self.assert_same(saying.letters(), ["f", "fa", "g", "h"])
        self.assert_same(saying.make_letters(), ["fa", "h"])
        self.assert_same(Saying([("f",)], [("f", "f")]).letters(), ["f"])
        self.assert_same(Saying([("f",)], [("g",)]).make_letters(), ["g"])

    def test_fronts(self):
        saying = Saying([("f", "g", "h"), ("g",)], [("h", "f"), ("h", "g")])
        self.assert_same(saying.trigger_front(), Front([("f", "g", "h"), ("g",)]))
        self.assert_same(saying.make_front(), Front([("h", "f"), ("h", "g")]))
        self.assert_same(saying.make_front().words(), [(), ("h",), ("h", "f"), ("h", "g")])

    def test_repr(self):
        self.assert_same(repr(Saying([("f",)], [("f", "g")])), "Saying([('f',)], [('f', 'g')])")
        saying = Saying([("g", "f"), ("f",)], (("h", "f", "g"), ("g",), ("f",)))
        self.assert_same(repr(saying), "Saying([('f',), ('g', 'f')], [('f',), ('g',), ('h', 'f', 'g')])")
        self.assert_same(str(saying), repr(saying))
        self.assertTrue(eval(repr(saying)) == saying)


class ChangedTest(unittest.TestCase, Checks):

    def test_with_triggers(self):
        saying = Saying([("f",)], [("g",), ("h",)])
        for told in ([("g", "f"), ("f",)], (("g", "f"), ("f",))):
            other = saying.with_triggers(told)
            self.assert_same(other, Saying([("f",), ("g", "f")], [("g",), ("h",)]))
            self.assert_same(saying.with_triggers(triggers=told), other)
        self.assert_same(saying, Saying([("f",)], [("g",), ("h",)]))

    def test_with_makes(self):
        saying = Saying([("f",), ("g",)], [("g",)])
        for told in ([("g", "f"), ("f",)], (("g", "f"), ("f",))):
            other = saying.with_makes(told)
            self.assert_same(other, Saying([("f",), ("g",)], [("f",), ("g", "f")]))
            self.assert_same(saying.with_makes(makes=told), other)
        self.assert_same(saying, Saying([("f",), ("g",)], [("g",)]))

    def test_wrong_ones(self):
        saying = Saying([("f",)], [("g",)])
        for value, position in wrong_lists():
            self.assert_raises(InvalidTriggers, {"position": position}, saying.with_triggers, value)
            self.assert_raises(InvalidTriggers, {"position": position}, saying.with_triggers, triggers=value)
            self.assert_raises(InvalidMakes, {"position": position}, saying.with_makes, value)
            self.assert_raises(InvalidMakes, {"position": position}, saying.with_makes, makes=value)
        self.assert_same(saying, Saying([("f",)], [("g",)]))


class EqualTest(unittest.TestCase, Checks):

    def test_sequence_has_no_meaning(self):
        words = [("f",), ("g", "f"), ("h", "g", "f")]
        for triggers in itertools.permutations(words):
            for makes in itertools.permutations(words):
                self.assertIs(Saying(triggers, makes) == Saying(words, words), True)
                self.assertIs(Saying(triggers, makes) != Saying(words, words), False)

    def test_other_words(self):
        rows = [[("f",)], [("g",)], [("f",), ("g",)], [("f", "g")], [("f", "g"), ("f",)], [("fg",)]]
        for one, another in itertools.permutations(rows, 2):
            self.assertIs(Saying(one, [("h",)]) == Saying(another, [("h",)]), False)
            self.assertIs(Saying([("h",)], one) == Saying([("h",)], another), False)
            self.assertIs(Saying([("h",)], one) != Saying([("h",)], another), True)
            self.assertIs(Saying(one, another) == Saying(another, one), False)

    def test_equal_only_to_sayings(self):
        saying = Saying([("f",)], [("h",)])
        others = any_values() + [repr(saying), (saying.triggers(), saying.makes()), [("f",)]]
        for value in others:
            self.assertIs(saying == value, False)
            self.assertIs(value == saying, False)
            self.assertIs(saying != value, True)


if __name__ == "__main__":
    unittest.main()
