"""The errors: their classes, bases and attributes."""

import inspect
import unittest

from helping import any_values
from wakesayings import errors

BASES = {"WakeError": ValueError, "MissingError": LookupError, "StateError": RuntimeError, "LimitError": ArithmeticError}
CLASSES = {
    "WakeError": {
        "InvalidLetter": ["value"], "InvalidWord": ["value"], "InvalidWords": ["position"],
        "InvalidNumber": ["value"], "InvalidFront": ["value"], "InvalidTriggers": ["position"],
        "InvalidMakes": ["position"], "InvalidSaying": ["value"], "InvalidSayings": ["position"],
        "InvalidBook": ["value"], "InvalidThings": ["position"], "InvalidTerm": ["value"],
        "InvalidTerms": ["position"], "InvalidPairs": ["position"], "InvalidWeb": ["value"],
        "InvalidInstances": ["position"], "InvalidMaker": ["value"], "InvalidOffers": ["position"],
        "InvalidChoice": ["value"], "InvalidWish": ["value"], "InvalidText": ["line"], "InvalidClaim": ["value"],
        "InvalidName": ["value"], "InvalidEntry": ["value"], "InvalidCommand": ["value"],
    },
    "MissingError": {"UnknownLetter": ["value"], "UnknownTerm": ["value"], "UnknownName": ["value"],
                     "NothingToUndo": []},
    "StateError": {"CantMake": ["number", "term"], "CommandFailed": ["position"]},
    "LimitError": {"TooMany": ["what", "limit"]},
}


def rows():
    """Each class with its base and the names of its attributes."""
    return [(getattr(errors, name), getattr(errors, base), parts)
            for base, found in CLASSES.items() for name, parts in found.items()]


class ErrorsTest(unittest.TestCase):

    def test_just_these_classes(self):
        here = [name for name, value in vars(errors).items() if inspect.isclass(value)]
        told = [name for found in CLASSES.values() for name in found]
        self.assertEqual(sorted(here), sorted(list(BASES) + told))
        for name in here:
            self.assertEqual(getattr(errors, name).__module__, "wakesayings.errors")

    def test_bases_of_bases(self):
        for name, base in BASES.items():
            self.assertEqual(getattr(errors, name).__bases__, (base,))

    def test_direct_bases(self):
        for kind, base, _ in rows():
            self.assertEqual(kind.__bases__, (base,), kind)

    def test_parameters(self):
        for kind, _, parts in rows():
            self.assertEqual(list(inspect.signature(kind).parameters), parts, kind)

    def test_values_of_any_kind_by_position_and_by_name(self):
        for kind, _, parts in rows():
            for value in any_values():
                told = [value, [value]][:len(parts)]
                named = dict(zip(parts, told))
                for error in (kind(*told), kind(**named)):
                    self.assertEqual(list(vars(error)), parts)
                    for name in parts:
                        self.assertIs(getattr(error, name), named[name])

    def test_raised_and_caught_by_bases(self):
        for kind, base, parts in rows():
            for caught in (kind, base, base.__bases__[0]):
                with self.assertRaises(caught):
                    raise kind(*parts)

    def test_nothing_to_undo_takes_nothing(self):
        self.assertEqual(vars(errors.NothingToUndo()), {})


if __name__ == "__main__":
    unittest.main()
