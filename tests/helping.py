"""What several tests need: wrong values of all kinds, and a strict look at errors."""

from wakesayings.fronts import Front


def any_values():
    """Values of all kinds, new each time; some of them are letters, words, lists of words, counts."""
    return [
        None, True, False, 0, 1, 2, 3, 4, -1, 10 ** 40,
        "", "f", "g", "fg", "F", "f1", "f_", " f", "f\n", "-", ".", "f.g", "f.g.h", "f.g.h.f", "f..g", ".f", "f.",
        "abcdefgh", "abcdefghi", "abcdefgh.f", "-.f", "--",
        (), ("f",), ("g",), ("f", "g"), ("f", "g", "f"), ("f", "g", "f", "g"), ("abcdefgh",), ("abcdefghi",),
        ("",), ("F",), ("-",), ("f.g",), (None,), (True,), (1,), ("f", None), ("f", False), ("f", 0), ("f", ("g",)),
        (("f",),), (("f",), ("g",)), (("f",), ["g"]), ((("f",),),), (["f"],), ({},), ({"f": True},), ("f", []),
        [], ["f"], ["f", "g"], [()], [("f",)], [("f",), ("f", "g")], [["f"]], [("f",), "f"], [None], [True], [{}],
        [("f",), None, ("f", "g", "f", "g")], [[("f",)]],
        {}, {"f": True}, {("f",): True}, {"value": "f"}, {0: ("f",)},
        b"f", (b"f",), {"f"}, object(), Front, is_called, Front([("f",)]), [Front([("f",)])], (Front(),), 10 ** 49,
    ]


def is_called():
    """A function, as a value."""


def error_of(action, *told, **named):
    """The error that a call raises."""
    try:
        answer = action(*told, **named)
    except Exception as error:
        return error
    raise AssertionError(f"no error, but {answer!r} of {told!r} {named!r}")


def is_same(one, another):
    """Whether both are equal and of one kind, so that True is not taken for 1."""
    if type(one) is not type(another):
        return False
    if isinstance(one, (list, tuple)):
        return len(one) == len(another) and all(is_same(x, y) for x, y in zip(one, another))
    return one == another


class Checks:
    """Stands beside unittest.TestCase."""

    def assert_same(self, one, another):
        self.assertTrue(is_same(one, another), f"{one!r} is not just {another!r}")

    def assert_raises(self, kind, parts, action, *told, **named):
        """That a call raises an error of just this class with just these attributes."""
        error = error_of(action, *told, **named)
        self.assertIs(type(error), kind, f"{error!r} of {told!r} {named!r}")
        self.assertEqual(sorted(vars(error)), sorted(parts))
        for name, value in parts.items():
            self.assert_same(getattr(error, name), value)

    def assert_invalid(self, kind, value, action, *told, **named):
        self.assert_raises(kind, {"value": value}, action, *told, **named)
