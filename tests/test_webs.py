"""Webs: [2], [31] to [35]."""

import itertools
import random
import unittest

from helping import (
    Checks, any_values, no_fronts, no_lists, no_terms, no_webs, no_words, plain_letter, plain_term, random_web,
    random_web_parts, some_webs, wrong,
)
from naive import NaiveWeb, order
from wakesayings.errors import InvalidPairs, InvalidTerms, InvalidThings, UnknownTerm
from wakesayings.fronts import Front
from wakesayings.webs import Web, is_term

EXAMPLE = (["b"], [("a", "f", "g")], [(("a", "f", "f"), ("a", "f")), (("b",), ("a", "f"))])


def some_parts():
    """Things, terms and pairs of many webs."""
    chance = random.Random(31)
    rows = [
        ([], [], []), (["a"], [], []), (["b", "a", "b"], [("a",)], []), ([], [("a", "f", "g")], []),
        ([], [], [(("a",), ("b",))]), ([], [], [(("a", "f"), ("a",))]), ([], [], [(("a",), ("a",))]),
        ([], [("b", "f", "g"), ("a", "f", "f")], [(("a",), ("b",))]),
        ([], [("a", "f", "f", "f")], [(("a", "f", "f", "f"), ("a",))]),
        ([], [("a",) + ("f",) * 6], [(("a",) + ("f",) * 6, ("a",)), (("a",) + ("f",) * 4, ("a",))]),
        (["c"], [("b", "g", "f")], [(("a", "f"), ("c",)), (("b", "g"), ("c",)), (("c",), ("b",))]),
        # A pair that makes things the same behind the leads of both.
        ([], [("a", "f", "g"), ("b", "f", "f")], [(("a", "g"), ("b", "g")), (("a", "g"), ("a",)), (("b", "g"), ("b",))]),
        EXAMPLE,
    ]
    return rows + [random_web_parts(chance) for _ in range(150)] + [random_web_parts(chance, "fgh", 3) for _ in range(50)]


def unknown(terms):
    return wrong(UnknownTerm, terms)


class TermsTest(unittest.TestCase):

    def test_terms(self):
        for value in [("a",), ("abcdefgh",), ("a", "f"), ("a",) + ("f",) * 29, ("a", "abcdefgh", "z")]:
            self.assertIs(is_term(value), True)
        for value in [(), "a", ["a"], ["a", "f"], ("A",), ("abcdefghi",), ("a", "F"), ("a", ""), ("a", None), ("a", 1),
                      ("a", True), (("a",),), ("a", ("f",)), ("a", "f", ["g"]), ("a.f",), ({},), None, {"a": "f"}]:
            self.assertIs(is_term(value), False, value)

    def test_any_values(self):
        for value in any_values():
            self.assertIs(is_term(value), plain_term(value), value)
            self.assertIs(is_term(value=value), plain_term(value), value)

    def test_each_place_is_looked_at(self):
        for at in range(30):
            for part in ["", "F", None, 0, True, ("f",), ["f"], {}]:
                parts = ["f"] * 30
                parts[at] = part
                self.assertIs(is_term(tuple(parts)), False)


class MakingTest(unittest.TestCase, Checks):

    def test_no_lists(self):
        for value in no_lists():
            self.assert_raises(InvalidThings, {"position": None}, Web, value)
            self.assert_raises(InvalidThings, {"position": None}, Web, value, [None], None)
            self.assert_raises(InvalidTerms, {"position": None}, Web, [], value)
            self.assert_raises(InvalidTerms, {"position": None}, Web, ["a"], value, [None])
            self.assert_raises(InvalidPairs, {"position": None}, Web, [], [], value)
            self.assert_raises(InvalidPairs, {"position": None}, Web, pairs=value)
            self.assert_raises(InvalidTerms, {"position": None}, Web, terms=value, pairs=[None])

    def test_first_wrong_thing(self):
        for value in any_values():
            if plain_letter(value):
                continue
            for at in range(3):
                told = ["a", "b", "a"]
                told[at] = value
                self.assert_raises(InvalidThings, {"position": at}, Web, told)
                self.assert_raises(InvalidThings, {"position": at}, Web, tuple(told) + (None,), None, None)

    def test_first_wrong_term(self):
        for value in any_values():
            if plain_term(value):
                continue
            for at in range(3):
                told = [("a", "f"), ("b",), ("a",)]
                told[at] = value
                self.assert_raises(InvalidTerms, {"position": at}, Web, ["a"], told)
                self.assert_raises(InvalidTerms, {"position": at}, Web, ["a"], tuple(told) + (None,), None)
                self.assert_raises(InvalidTerms, {"position": at}, Web, terms=told)

    def test_first_wrong_pair(self):
        a = ("a",)
        values = any_values() + [
            (a,), (a, a, a), [a, a], (a, ["a"]), (["a"], a), (a, None), (None, a), (a, ()), ((), a), (a, "a"), ("a", a),
            (a, ("a", "F")), (("a", 1), a), (a, True), ((a, a), a), {a: a},
        ]
        for value in values:
            if type(value) is tuple and len(value) == 2 and all(plain_term(part) for part in value):
                continue
            for at in range(3):
                told = [(a, ("b",)), (a, a), (("a", "f"), a)]
                told[at] = value
                self.assert_raises(InvalidPairs, {"position": at}, Web, ["a"], [a], told)
                self.assert_raises(InvalidPairs, {"position": at}, Web, ["a"], [a], tuple(told) + (None,))
                self.assert_raises(InvalidPairs, {"position": at}, Web, pairs=told)

    def test_a_name_or_a_term_is_no_list_of_them(self):
        self.assert_raises(InvalidThings, {"position": None}, Web, "a")
        self.assert_raises(InvalidTerms, {"position": 0}, Web, [], ("a", "f"))
        self.assert_raises(InvalidPairs, {"position": 0}, Web, [], [], (("a",), ("b",)))

    def test_tuples_for_lists_and_names_of_parameters(self):
        web = Web(*EXAMPLE)
        self.assert_same(Web(*[tuple(row) for row in EXAMPLE]), web)
        self.assert_same(Web(pairs=EXAMPLE[2], terms=EXAMPLE[1], things=EXAMPLE[0]), web)
        self.assert_same(Web(), Web([], [], []))

    def test_four_hundred_knots_and_one(self):
        chain = [("a", *["f"] * many) for many in range(30)]
        things = [first + second for first in "abcdefghij" for second in "abcdefghijklmnopqrstuvwxyz"] + ["a"]
        self.assert_same(Web.MOST_KNOTS, 400)
        self.assert_same(Web().MOST_KNOTS, 400)
        names = [one + two for one in "abcdefghijklmnopqrstuvwxyz" for two in "abcdefghijklmnop"]
        self.assert_same(len(Web(names[:400])), 400)
        self.assert_too_many("knots", 400, Web, names[:401])
        self.assert_too_many("knots", 400, Web, names[:371], chain)
        self.assert_same(len(Web(names[1:371], chain)), 400)
        self.assert_same(len(Web(things, chain)), 290)
        # What is made the same counts once, however much was told.
        self.assert_same(len(Web(names, [], [((name,), (names[0],)) for name in names[:17]])), 400)
        self.assert_too_many("knots", 400, Web, names, [], [((name,), (names[0],)) for name in names[:16]])
        long = [(name, *["f"] * 29) for name in names]
        self.assert_same(len(Web([], long, [((name,), (names[0],)) for name in names])), 30)
        self.assert_too_many("knots", 400, Web, [], long)

    def test_a_wrong_pair_comes_ahead_of_too_many(self):
        names = [one + two for one in "abcdefghijklmnopqrstuvwxyz" for two in "abcdefghijklmnop"]
        self.assert_raises(InvalidPairs, {"position": 0}, Web, names, [], [None])
        self.assert_raises(InvalidTerms, {"position": 1}, Web, names, [("a",), ["a"]])

    def test_what_is_passed_is_copied(self):
        things, terms, pairs = ["b"], [("a", "f")], [(("a", "g"), ("b",))]
        web = Web(things, terms, pairs)
        self.assert_same([things, terms, pairs], [["b"], [("a", "f")], [(("a", "g"), ("b",))]])
        before = repr(web)
        things.append("c")
        terms.clear()
        pairs[0] = None
        self.assert_same(repr(web), before)

    def test_of_a_front(self):
        for words in [[], [("f",)], [("f", "g", "x"), ("x", "x")], [("f", "f", "f"), ("g",)]]:
            web = Web.of(Front(words))
            self.assert_same(web.things(), ["x"])
            self.assert_same(web.knots(), [("x",) + word for word in Front(words).words()])
            self.assertIs(web.is_tree, True)
            self.assert_same(web.front_at(("x",)), Front(words))
            self.assert_same(Web(["a"]).of(front=Front(words)), web)
        self.assert_parameters(Web.of, {"front": Front()}, {"front": no_fronts()})

    def test_of_a_front_with_many_words(self):
        letters = "abcdefghijklmnopqrst"
        words = list(itertools.product(letters, repeat=2))
        self.assert_same(len(Web.of(Front(words[:380]))), 400)
        self.assert_too_many("knots", 400, Web.of, Front(words[:380] + [("t",)] + [("t", "a")]))
        self.assert_too_many("knots", 400, Web.of, Front(words))


class NaiveTest(unittest.TestCase, Checks):

    def test_as_the_plain_words_say(self):
        for things, terms, pairs in some_parts():
            web, plain = Web(things, terms, pairs), NaiveWeb(things, terms, pairs)
            least = plain.least()
            self.assert_same(web.things(), sorted({term[0] for term in plain.group}))
            self.assert_same(web.knots(), sorted(least.values(), key=order))
            self.assert_same(len(web), len(least))
            told = [term for term in plain.terms(4)]
            for term in told:
                self.assertIs(term in web, True)
                self.assert_same(web[term], least[plain.knot(term)])
                letters = [letter for letter in plain.letters if plain.knot(term + (letter,)) is not None]
                self.assert_same(web.letters_at(term), letters)
                for letter in plain.letters + ["x"]:
                    self.assertIs(term + (letter,) in web, letter in letters)
            for one, another in itertools.product(told[:12], repeat=2):
                self.assertIs(web.same(one, another), plain.knot(one) == plain.knot(another))

    def test_leads_and_pairs(self):
        for parts in some_parts():
            web, plain = Web(*parts), NaiveWeb(*parts)
            least = plain.least()
            knots = sorted(least.values(), key=order)
            leads = [(term, letter, least[plain.knot(term + (letter,))]) for term in knots for letter in plain.letters
                     if plain.knot(term + (letter,)) is not None]
            self.assert_same(web.leads(), leads)
            told = [((thing,), web[(thing,)]) for thing in web.things() if web[(thing,)] != (thing,)]
            told += [(term + (letter,), to) for term, letter, to in leads if term + (letter,) != to]
            self.assert_same(web.pairs(), sorted(told, key=lambda pair: order(pair[0])))
            self.assertIs(web.is_tree, not told)

    def test_walked_and_fronts(self):
        for parts in some_parts()[:90]:
            web, plain = Web(*parts), NaiveWeb(*parts)
            least = plain.least()
            words = [word for many in range(4) for word in itertools.product(plain.letters, repeat=many)]
            for term in web.knots():
                ends = {word: plain.knot(term + word) for word in words}
                for word, end in ends.items():
                    self.assert_same(web.walked(term, word), None if end is None else least[end])
                self.assert_same(web.front_at(term), Front([word for word in words if ends[word] is not None]))

    def test_told_shortly(self):
        for parts in some_parts():
            web = Web(*parts)
            self.assert_same(Web(web.things(), web.knots(), web.pairs()), web)
            terms = [term for term in web.knots() if len(term) > 1]
            self.assert_same(repr(web), f"Web({web.things()!r}, {terms!r}, {web.pairs()!r})")
            self.assertTrue(eval(repr(web)) == web)

    def test_whatever_sequence_is_told(self):
        chance = random.Random(7)
        for things, terms, pairs in some_parts():
            turned = [pair if chance.random() < 0.5 else pair[::-1] for pair in pairs]
            for row in (things, terms, turned):
                chance.shuffle(row)
            self.assert_same(Web(things, terms + terms, turned), Web(things, terms, pairs))


class LookingTest(unittest.TestCase, Checks):

    def test_example(self):
        web = Web(*EXAMPLE)
        self.assert_same(web.knots(), [("a",), ("b",), ("b", "g")])
        self.assert_same([web[("a", "f")], web[("a", "f", "f", "f", "g")]], [("b",), ("b", "g")])
        self.assert_same(web.walked(("a", "f"), ("f", "f", "g")), ("b", "g"))
        self.assert_same(web.walked(("a",), ()), ("a",))
        self.assert_same(web.letters_at(("a", "f")), ["f", "g"])
        self.assert_same(web.letters_at(("b", "g")), [])

    def test_nothing(self):
        web = Web()
        self.assert_same([web.things(), web.knots(), len(web), web.leads(), web.pairs()], [[], [], 0, [], []])
        self.assertIs(web.is_tree, True)
        self.assertIs(("a",) in web, False)
        self.assert_same(repr(web), "Web([], [], [])")

    def test_terms_that_go_round(self):
        web = Web(pairs=[(("a", "f"), ("a",))])
        for many in range(60):
            self.assertIs(("a",) + ("f",) * many in web, True)
            self.assert_same(web[("a",) + ("f",) * many], ("a",))
        self.assert_same([len(web), web.leads(), web.is_tree], [1, [(("a",), "f", ("a",))], False])
        self.assert_same(web.front_at(("a", "f")), Front([("f", "f", "f")]))

    def test_least_terms_are_first_in_order(self):
        # A shorter term comes first, whatever its letters are.
        web = Web([], [("a", "a", "a")], [(("z", "z"), ("a", "a", "a")), (("b",), ("a", "a"))])
        self.assert_same(web.knots(), [("a",), ("b",), ("z",), ("b", "a")])
        web = Web([], [], [(("a", "g"), ("b", "f"))])
        self.assert_same(web.knots(), [("a",), ("b",), ("a", "g")])
        self.assert_same(web.pairs(), [(("b", "f"), ("a", "g"))])
        web = Web(["fa", "f"], [("f", "fa"), ("f", "f", "z"), ("fa", "a")])
        self.assert_same(web.knots(), [("f",), ("fa",), ("f", "f"), ("f", "fa"), ("fa", "a"), ("f", "f", "z")])

    def test_things_at_one_knot(self):
        web = Web([], [("c", "f")], [(("c",), ("b",)), (("b",), ("a",))])
        self.assert_same(web.pairs(), [(("b",), ("a",)), (("c",), ("a",))])
        self.assert_same(repr(web), "Web(['a', 'b', 'c'], [('a', 'f')], [(('b',), ('a',)), (('c',), ('a',))])")

    def test_pairs_in_order_of_the_first_terms(self):
        web = Web(["a", "b"], [("a", "f")], [(("b",), ("a",)), (("a", "f", "f"), ("a", "f")), (("a", "g"), ("a",))])
        self.assert_same(web.pairs(), [(("b",), ("a",)), (("a", "g"), ("a",)), (("a", "f", "f"), ("a", "f"))])
        self.assert_same(repr(Web(["a", "b"], [("a", "f")], [(("b",), ("a",)), (("a", "f", "f"), ("a", "f"))])),
                         "Web(['a', 'b'], [('a', 'f')], [(('b',), ('a',)), (('a', 'f', 'f'), ('a', 'f'))])")

    def test_any_value_in(self):
        web = Web(*EXAMPLE)
        for value in any_values() + [("a",), ("a", "f", "g"), ("b", "f", "f"), ("b", "g", "f"), ("c",)]:
            known = plain_term(value) and NaiveWeb(*EXAMPLE).knot(value) is not None
            self.assertIs(value in web, known, value)

    def test_not_iterated(self):
        with self.assertRaises(TypeError):
            list(Web(["a"]))

    def test_returned_lists_are_new(self):
        web = Web(*EXAMPLE)
        before = repr(web)
        for method, told in ((web.things, ()), (web.knots, ()), (web.leads, ()), (web.pairs, ()),
                             (web.letters_at, [("a",)])):
            rows = method(*told)
            method(*told).append(None)
            method(*told).clear()
            self.assert_same(method(*told), rows)
        self.assert_same([repr(web), len(web)], [before, 3])

    def test_terms_of_the_web_are_asked_for(self):
        web = Web(*EXAMPLE)
        terms = no_terms() + unknown([("c",), ("b", "g", "g"), ("a", "g"), ("f",), ("a", "f", "x"), ("a",) + ("g",) * 29])
        a = ("a",)
        self.assert_parameters(lambda term: web[term], {"term": a}, {"term": terms})
        self.assert_parameters(web.same, {"one": a, "another": ("b",)}, {"one": terms, "another": terms})
        self.assert_parameters(web.walked, {"term": a, "word": ("f",)}, {"term": terms, "word": no_words()})
        self.assert_parameters(web.letters_at, {"term": a}, {"term": terms})
        self.assert_parameters(web.front_at, {"term": a}, {"term": terms})
        self.assert_invalid(UnknownTerm, a, lambda: Web()[a])
        self.assert_invalid(UnknownTerm, ("c",), web.same, ("c",), None)


class GrowingTest(unittest.TestCase, Checks):

    def test_one_term_more(self):
        for things, terms, pairs in some_parts():
            web = Web(things, terms, pairs)
            before = repr(web)
            for term in [("a",), ("d",), ("a", "f", "g", "h"), ("b", "g"), ("c", "f", "f", "f")]:
                self.assert_same(web + term, Web(things, list(terms) + [term], pairs))
            self.assert_same(repr(web), before)

    def test_a_new_object_for_the_name(self):
        web = held = Web(["a"])
        web += ("a", "f")
        self.assert_same([held.knots(), web.knots()], [[("a",)], [("a",), ("a", "f")]])

    def test_a_pair_more(self):
        for things, terms, pairs in some_parts():
            web = Web(things, terms, pairs)
            before = repr(web)
            for pair in [(("a",), ("b",)), (("d",), ("a", "g")), (("a", "f"), ("a",)), (("c", "g", "f"), ("b", "f")),
                         (("e", "f"), ("e", "f"))]:
                more = Web(things, terms, list(pairs) + [pair])
                self.assert_same(web.with_pair(*pair), more)
                self.assert_same(web.with_pair(another=pair[0], one=pair[1]), more)
            self.assert_same(repr(web), before)

    def test_united(self):
        rows = some_parts()
        for one, another in list(zip(rows, rows[1:])) + list(zip(rows, rows[40:])):
            web, other = Web(*one), Web(*another)
            before = repr(web), repr(other)
            both = Web(*[list(x) + list(y) for x, y in zip(one, another)])
            self.assert_same(web.united(other), both)
            self.assert_same(other.united(other=web), both)
            self.assert_same(web.united(web), web)
            self.assert_same((repr(web), repr(other)), before)
        self.assert_same(Web().united(Web()), Web())

    def test_wrong_parameters(self):
        web = Web(*EXAMPLE)
        a = ("a",)
        self.assert_parameters(lambda term: web + term, {"term": a}, {"term": no_terms()})
        self.assert_parameters(web.with_pair, {"one": a, "another": ("d",)}, {"one": no_terms(), "another": no_terms()})
        self.assert_parameters(web.united, {"other": Web()}, {"other": no_webs()})

    def test_too_many_knots(self):
        names = [one + two for one in "abcdefghijklmnopqrstuvwxyz" for two in "abcdefghijklmnop"]
        full = Web(names[:400])
        self.assert_same(full + (names[0],), full)
        self.assert_too_many("knots", 400, lambda: full + ("a",))
        self.assert_too_many("knots", 400, lambda: full + (names[0], "f"))
        self.assert_too_many("knots", 400, full.with_pair, ("a",), ("b",))
        self.assert_same(len(full.with_pair(("a",), (names[0],))), 400)
        self.assert_too_many("knots", 400, full.with_pair, (names[7], "f", "g"), (names[7],))
        self.assert_same(len(full.with_pair((names[7], "f"), (names[7],))), 400)
        self.assert_same(len(full.with_pair((names[1],), (names[0],))), 399)
        self.assert_too_many("knots", 400, full.united, Web(["a"]))
        self.assert_same(len(Web(names[:300]).united(Web(names[200:400]))), 400)
        self.assert_too_many("knots", 400, Web(names[:300]).united, Web(names[200:401]))
        same = [((names[0],), (name,)) for name in names[400:]]
        self.assert_same(len(Web(names[:300]).united(Web(names[200:], [], same))), 400)
        self.assert_same(len(full), 400)


class EqualTest(unittest.TestCase, Checks):

    def test_all_pairs(self):
        webs = some_webs()
        for one, another in itertools.product(webs, repeat=2):
            same = repr(one) == repr(another)
            self.assertIs(one == another, same)
            self.assertIs(one != another, not same)

    def test_what_makes_webs_other_ones(self):
        web = Web(["a"], [("b", "f")])
        self.assertTrue(web == Web(["b"], [("b", "f"), ("a",)]))
        for other in [Web(["a", "c"], [("b", "f")]), Web(["a"], [("b", "g")]), Web(["a"], [("b",)]),
                      Web([], [], [(("a",), ("b", "f"))]), Web(["b"], [("a", "f")]), Web(["a", "b"]), Web()]:
            self.assertFalse(web == other)

    def test_equal_only_to_webs(self):
        for web in (Web(), Web(["b"])):
            others = [value for value in any_values() if not isinstance(value, Web)]
            for value in others + [repr(web), web.knots(), Front(), (web.things(), [], [])]:
                self.assertIs(web == value, False)
                self.assertIs(value == web, False)
                self.assertIs(web != value, True)

    def test_random_webs_are_told_by_their_terms(self):
        chance = random.Random(33)
        for _ in range(150):
            one, another = random_web(chance, "f", 3), random_web(chance, "f", 3)
            terms = [(thing, *["f"] * many) for thing in "abc" for many in range(9)]
            same = [one[term] if term in one else None for term in terms] == [
                another[term] if term in another else None for term in terms]
            self.assertIs(one == another, same)


if __name__ == "__main__":
    unittest.main()
