"""What several tests need: wrong values of all kinds, a strict look at errors, and some books, fronts and webs."""

import itertools
import random

from wakesayings.books import Book
from wakesayings.errors import (
    InvalidBook, InvalidFront, InvalidLetter, InvalidNumber, InvalidSaying, InvalidTerm, InvalidWeb, InvalidWord,
    TooMany,
)
from wakesayings.fronts import Front
from wakesayings.makers import Maker
from wakesayings.sayings import Saying
from wakesayings.webs import Web


def any_values():
    """Values of all kinds, new each time; some of them are letters, words, terms, lists of words, counts, objects."""
    saying = Saying([("f",)], [("g",)])
    return [
        None, True, False, 0, 1, 2, 3, 4, 5, 6, -1, 10 ** 40,
        "", "f", "g", "fg", "F", "f1", "f_", " f", "f\n", "-", ".", "f.g", "f.g.h", "f.g.h.f", "f..g", ".f", "f.",
        "abcdefgh", "abcdefghi", "abcdefgh.f", "-.f", "--",
        (), ("f",), ("g",), ("f", "g"), ("f", "g", "f"), ("f", "g", "f", "g"), ("abcdefgh",), ("abcdefghi",),
        ("",), ("F",), ("-",), ("f.g",), (None,), (True,), (1,), ("f", None), ("f", False), ("f", 0), ("f", ("g",)),
        (("f",),), (("f",), ("g",)), (("f",), ["g"]), ((("f",),),), (["f"],), ({},), ({"f": True},), ("f", []),
        (0, ("a",)), [0, ("a",)], ("a", "f"), ["a", "f"], ("a", "F"), ("a",) + ("f",) * 29,
        [], ["f"], ["f", "g"], [()], [("f",)], [("f",), ("f", "g")], [["f"]], [("f",), "f"], [None], [True], [{}],
        [("f",), None, ("f", "g", "f", "g")], [[("f",)]], [("f",), ("f",)], [[], [("f", 1)]], [0], [0, 1],
        {}, {"f": True}, {("f",): True}, {"value": "f"}, {0: ("f",)},
        b"f", (b"f",), {"f"}, object(), Front, is_called, Front([("f",)]), [Front([("f",)])], (Front(),), 10 ** 49,
        Saying, saying, [saying], (saying,), Book, Book(), Book([saying]), [Book()], Web, Web(), Web(["a"]), [Web()],
        Maker(Book(), Web()), (Front(), ("f",), "told"), [(Front(), ("f",), "told")], (Front(), Front()),
        [(Front(), Front())],
    ]


def is_called():
    """A function, as a value."""


def error_of(action, /, *told, **named):
    """The error that a call raises."""
    try:
        answer = action(*told, **named)
    except Exception as error:
        return error
    raise AssertionError(f"no error, but {answer!r} of {told!r} {named!r}")


def is_same(one, another):
    """Whether both are equal and of one kind, so that True is not taken for 1."""
    if type(one) is not type(another):
        return False
    if isinstance(one, (list, tuple)):
        return len(one) == len(another) and all(is_same(x, y) for x, y in zip(one, another))
    return one == another


def no_lists():
    return [value for value in any_values() if not isinstance(value, (list, tuple))]


def wrong(kind, values):
    """Rows (value, class of the error, its attributes) for values that an error keeps."""
    return [(value, kind, {"value": value}) for value in values]


def not_of(kind, error):
    return wrong(error, [value for value in any_values() if not isinstance(value, kind)])


def no_books():
    return not_of(Book, InvalidBook)


def no_webs():
    return not_of(Web, InvalidWeb)


def no_fronts():
    return not_of(Front, InvalidFront)


def no_sayings():
    return not_of(Saying, InvalidSaying)


def plain_letter(value):
    return type(value) is str and 1 <= len(value) <= 8 and all(sign in "abcdefghijklmnopqrstuvwxyz" for sign in value)


def plain_word(value):
    return type(value) is tuple and len(value) <= 3 and all(plain_letter(part) for part in value)


def plain_term(value):
    return type(value) is tuple and len(value) >= 1 and all(plain_letter(part) for part in value)


def no_letters():
    return wrong(InvalidLetter, [value for value in any_values() if not plain_letter(value)])


def no_words():
    return wrong(InvalidWord, [value for value in any_values() if not plain_word(value)])


def no_terms():
    return wrong(InvalidTerm, [value for value in any_values() if not plain_term(value)])


def no_numbers(many):
    """What is not one of so many numbers."""
    values = any_values() + [many, many + 1, -many]
    return wrong(InvalidNumber, [value for value in values if type(value) is not int or not 0 <= value < many])


def plain_list(value):
    return type(value) in (list, tuple)


def plain_count(value):
    return type(value) is int and value >= 0


def plain_reason(value):
    if type(value) is tuple:
        return len(value) == 2 and plain_letter(value[0]) and isinstance(value[1], Front)
    return (type(value) is str and value == "told") or (type(value) is int and 0 <= value <= 5)


def plain_line(value):
    return (type(value) is tuple and len(value) == 3 and isinstance(value[0], Front) and plain_word(value[1])
            and plain_reason(value[2]))


def plain_lines(value):
    return plain_list(value) and all(plain_line(line) for line in value)


def plain_ranked(value):
    """Whether a value is a list of tuples of two fronts and a rank."""
    return plain_list(value) and all(
        type(row) is tuple and len(row) == 3 and isinstance(row[0], Front) and isinstance(row[1], Front)
        and plain_count(row[2]) for row in value)


def plain_lasso(value):
    """Whether a value has the parts of a lasso."""
    return (type(value) is tuple and len(value) == 4 and plain_list(value[0]) and plain_list(value[1])
            and all(isinstance(front, Front) for front in value[0]) and all(plain_letter(part) for part in value[1])
            and plain_count(value[2]) and plain_lines(value[3]))


class Refuses:
    """Its objects refuse to be compared, looked up, measured, gone through or tested."""

    __hash__ = None

    def __eq__(self, other):
        raise AssertionError("compared")

    def __bool__(self):
        raise AssertionError("tested")

    def __len__(self):
        raise AssertionError("measured")

    def __iter__(self):
        raise AssertionError("gone through")


class Agrees:
    """Its objects say that they are equal to everything."""

    def __eq__(self, other):
        return True

    def __hash__(self):
        return 1


def with_odd_parts(value):
    """Yields the value with each of its parts, and itself, replaced by an object of another class, one at a time."""
    yield Refuses()
    yield Agrees()
    if isinstance(value, dict):
        for key in value:
            for odd in with_odd_parts(value[key]):
                yield {**value, key: odd}
        yield {**{key: value[key] for key in list(value)[1:]}, Agrees(): Front()}
    elif isinstance(value, (list, tuple)):
        for at in range(len(value)):
            for odd in with_odd_parts(value[at]):
                yield type(value)([*value[:at], odd, *value[at + 1:]])


class Checks:
    """Stands beside unittest.TestCase."""

    def assert_same(self, one, another):
        self.assertTrue(is_same(one, another), f"{one!r} is not just {another!r}")

    def assert_raises(self, kind, parts, action, /, *told, **named):
        """That a call raises an error of just this class with just these attributes."""
        error = error_of(action, *told, **named)
        self.assertIs(type(error), kind, f"{error!r} of {told!r} {named!r}")
        self.assertEqual(sorted(vars(error)), sorted(parts))
        for name, value in parts.items():
            self.assert_same(getattr(error, name), value)

    def assert_invalid(self, kind, value, action, /, *told, **named):
        self.assert_raises(kind, {"value": value}, action, *told, **named)

    def assert_too_many(self, what, limit, action, /, *told, **named):
        self.assert_raises(TooMany, {"what": what, "limit": limit}, action, *told, **named)

    def assert_parameters(self, action, good, rows):
        """That each wrong value of each parameter is told, alone and ahead of wrong ones in the places behind it.

        Good is a dict of the parameters in their sequence, rows a dict from their names to rows as of wrong.
        """
        self.assertEqual(error_or_none(action, **good), None)
        names = list(good)
        for at, name in enumerate(names):
            for value, kind, parts in rows.get(name, []):
                told = dict(good, **{name: value})
                self.assert_raises(kind, parts, action, **told)
                self.assert_raises(kind, parts, action, *told.values())
                for later in names[at + 1:]:
                    for other in rows.get(later, [])[::17]:
                        self.assert_raises(kind, parts, action, **dict(told, **{later: other[0]}))
                self.assert_raises(kind, parts, action, **dict(told, **{
                    later: rows[later][-1][0] for later in names[at + 1:] if later in rows}))


def error_or_none(action, /, **named):
    try:
        action(**named)
    except Exception as error:
        return error
    return None


UP = Saying([("f",)], [("f", "g")])
BACK = Saying([("g",)], [("g", "f")])
INWARD = Saying([("f",), ("f", "g")], [("g",)])
OUTWARD = Saying([("f", "g")], [("g",)])
LOOP = Saying([("g",)], [("f", "g")])
FAR = Saying([("f", "f", "f")], [("g", "g", "g")])
MANY = Saying([("f",), ("g",)], [("f", "f"), ("g",), ("h", "f", "g")])


def some_books():
    """Books that rest and books that go on, without and with equal sayings."""
    return [
        Book(), Book([UP]), Book([UP, BACK]), Book([INWARD]), Book([OUTWARD, UP]), Book([LOOP]), Book([UP, UP]),
        Book([FAR, INWARD, UP]), Book([MANY]), Book([MANY, BACK, LOOP]),
        Book([Saying([("f", "f")], [("f",)])]), Book([Saying([("f",)], [("f", "f")])]),
        Book([Saying([("f",)], [("g",)]), Saying([("g",)], [("h",)]), Saying([("h",)], [("h", "g")])]),
        Book([Saying([("f",), ("f", "g")], [("h",)]), Saying([("h",)], [("f", "g", "h")])]),
        Book([Saying([("f", "g", "h")], [("h",), ("g",), ("f",)]), Saying([("h",), ("g",)], [("f", "f", "g")])]),
    ]


def some_words(chance, letters, least, most, many):
    """At most so many different words, at least one."""
    found = []
    for _ in range(chance.randint(1, many)):
        word = tuple(chance.choice(letters) for _ in range(chance.randint(least, most)))
        if word not in found:
            found.append(word)
    return found


def random_book(chance, most=4):
    letters = "fgh"[:chance.randint(1, 3)]
    return Book([Saying(some_words(chance, letters, 1, 3, 3), some_words(chance, letters, 1, 3, 2))
                 for _ in range(chance.randint(0, most))])


def random_short_book(chance):
    """One with few letters and short words, which often has new instances and comes to rest."""
    return Book([Saying(some_words(chance, "fgh", 1, 2, 2), some_words(chance, "fgh", 1, 2, 2))
                 for _ in range(chance.randint(1, 3))])


def random_front(chance, letters="fgh"):
    return Front(some_words(chance, letters, 0, 3, 6))


def random_web_parts(chance, letters="fg", most=4):
    """Things, terms and pairs."""
    def a_term():
        return (chance.choice("abc"), *[chance.choice(letters) for _ in range(chance.randint(0, most))])
    things = [chance.choice("abc") for _ in range(chance.randint(0, 2))]
    terms = [a_term() for _ in range(chance.randint(0, 4))]
    pairs = [(a_term(), a_term()) for _ in range(chance.randint(0, 3))]
    return things, terms, pairs


def random_web(chance, letters="fg", most=4):
    return Web(*random_web_parts(chance, letters, most))


def some_webs():
    """Webs without anything, trees, webs with two terms at a knot, and webs that go round."""
    chance = random.Random(66)
    return [
        Web(), Web(["a"]), Web(["b", "a"]), Web(terms=[("a", "f")]), Web(terms=[("a", "f", "g"), ("a", "g")]),
        Web(terms=[("a", "f", "f", "g")]), Web(terms=[("a", "g"), ("b", "f", "g"), ("b", "f", "f", "f")]),
        Web(pairs=[(("a",), ("b",))]), Web(pairs=[(("a", "f"), ("a",))]), Web(pairs=[(("a", "f", "g"), ("a",))]),
        Web(["c"], [("a", "f", "g")], [(("a", "f"), ("b",)), (("b", "g", "f"), ("b",))]),
        Web([], [("a", "f", "g")], [(("a", "g"), ("a", "f", "f"))]),
    ] + [random_web(chance) for _ in range(25)]


def changed_part(chance, value):
    """The value with one of its parts, or itself, changed in some way; the parts that are changed are new."""
    if isinstance(value, dict) and value and chance.random() < 0.9:
        told = dict(value)
        key = chance.choice(sorted(told))
        way = chance.randrange(4)
        if way == 0:
            del told[key]
        elif way == 1:
            told[key + ("f",)] = told.pop(key)
        else:
            told[key] = changed_part(chance, told[key])
        return told
    if isinstance(value, (list, tuple)) and value and chance.random() < 0.9:
        rows = list(value)
        at = chance.randrange(len(rows))
        way = chance.randrange(12)
        if way == 0:
            del rows[at]
        elif way == 1:
            rows.insert(chance.randrange(len(rows)), rows.pop(at))
        elif way == 2:
            rows.insert(at, chance.choice(rows))
        elif way == 3:
            rows[at] = chance.choice(rows)
        else:
            rows[at] = changed_part(chance, rows[at])
        return type(value)(rows)
    return changed_leaf(chance, value)


def changed_leaf(chance, value):
    if isinstance(value, Front):
        word = chance.choice(value.words())
        less = Front([held for held in value.words() if held[:len(word)] != word])
        return chance.choice([less, value | random_front(chance), value | Front([word[:2] + ("f",)]), value.cut(2), None])
    if isinstance(value, bool) or value is None:
        return 0
    if isinstance(value, int):
        return chance.choice([value + 1, value - 1, 0, 1, value + 7, bool(value), "told"])
    if isinstance(value, str):
        return chance.choice(["f", "g", "h", "up", "down", "told", "F", value, 0])
    if isinstance(value, tuple):
        return chance.choice([list(value), (), ("f",), ("a",), value + ("f",)])
    return chance.choice([tuple(value), [], None]) if isinstance(value, list) else None


def all_words(letters, most):
    return [word for length in range(most + 1) for word in itertools.product(letters, repeat=length)]
