"""Making: [2], [41] to [43], and of [4] that each row leads to the same web."""

import random
import unittest

from helping import (
    BACK, INWARD, LOOP, OUTWARD, UP, Checks, any_values, error_of, error_or_none, no_books, no_lists, no_numbers, no_terms, no_webs,
    plain_term, random_book, random_short_book, random_web, some_books, some_webs, wrong,
)
from naive import order
from wakesayings.books import Book
from wakesayings.errors import CantMake, InvalidBook, InvalidInstances, InvalidWeb, TooMany, UnknownTerm
from wakesayings.fronts import Front
from wakesayings.making import (
    after_instance, after_round, can_make, each_round, end_of, instances, is_new, new_instances, rounds_of,
    sure_instances,
)
from wakesayings.sayings import Saying
from wakesayings.webs import Web

CHAIN = Web(terms=[("a", "f", "f", "g")])
ROUND = Web(terms=[("b", "g")], pairs=[(("a", "f"), ("a",)), (("a", "g"), ("b",))])
# From a.f one knot more with each round, for ever.
EVER = Book([Saying([("f",)], [("f", "f")])])


def walks(web, term, words):
    return all(web.walked(term, word) is not None for word in words)


def plainly_possible(book, web):
    return [(number, term) for number, saying in enumerate(book.sayings()) for term in web.knots()
            if walks(web, term, saying.triggers())]


def plainly_new(book, web):
    return [(number, term) for number, term in plainly_possible(book, web)
            if not walks(web, term, book[number].makes())]


def plainly_made(book, web, found):
    for number, term in found:
        for make in book[number].makes():
            web = web + (term + make)
    return web


def plain_rounds(book, web, without=()):
    """The webs behind the rounds as long as they are small, and whether they come to rest so far."""
    webs = []
    while len(web) <= 80 and len(webs) < 12:
        barred = [(number, web[term]) for number, term in without if term in web]
        found = [row for row in plainly_new(book, web) if row not in barred]
        if not found:
            return webs, True
        web = plainly_made(book, web, found)
        webs.append(web)
    return webs, False


def pairs_of_books_and_webs(many=120):
    chance = random.Random(41)
    rows = [(book, web) for book in some_books() for web in some_webs()[:16]]
    return rows + [(random_book(chance), random_web(chance, "fgh", 3)) for _ in range(many)]


def resting_pairs(most):
    """Those whose end has at most so many knots, with this end."""
    found = []
    for book, web in pairs_of_books_and_webs():
        webs, rests = plain_rounds(book, web)
        end = webs[-1] if webs else web
        if rests and len(end) <= most:
            found.append((book, web, end))
    return found


class InstancesTest(unittest.TestCase, Checks):

    def test_lists(self):
        for book, web in pairs_of_books_and_webs():
            self.assert_same(instances(book, web), plainly_possible(book, web))
            self.assert_same(new_instances(book, web), plainly_new(book, web))

    def test_sorted_by_numbers_then_by_terms_in_order(self):
        book = Book([Saying([("f",)], [("f",)]), UP, Saying([("f",)], [("h",)])])
        web = Web(terms=[("b", "f"), ("a", "f", "f"), ("c",)])
        knots = [("a",), ("b",), ("a", "f")]
        self.assert_same(instances(book, web), [(number, term) for number in range(3) for term in knots])
        self.assert_same(new_instances(book, web),
                         [(number, term) for number in (1, 2) for term in knots])
        for told in (instances(book, web), new_instances(book, web)):
            self.assert_same(told, sorted(told, key=lambda row: (row[0], *order(row[1]))))

    def test_equal_sayings_are_told_twice(self):
        self.assert_same(new_instances(Book([UP, UP]), Web(terms=[("a", "f")])), [(0, ("a",)), (1, ("a",))])

    def test_things_that_are_named_as_letters_are(self):
        # No knot leads to a thing, so a thing meets no trigger.
        web = Web(["g"], [("f", "f", "g"), ("x",)])
        book = Book([Saying([("f",)], [("h",)]), Saying([("f", "f")], [("h",)]), Saying([("g",), ("f",)], [("h",)])])
        self.assert_same(instances(book, web), [(0, ("f",))])
        self.assert_same(new_instances(book, web), [(0, ("f",))])
        self.assert_same(end_of(book, web), web + ("f", "h"))
        self.assert_same(sure_instances(book, web), [(0, ("f",))])
        self.assert_same(web.letters_at(("f",)), ["f"])
        self.assert_same(web.front_at(("f",)), Front([("f", "g")]))

    def test_each_term_of_a_knot(self):
        web = Web([], [("a", "f", "g")], [(("b",), ("a", "f")), (("c", "g"), ("a",))])
        book = Book([UP, Saying([("g", "f")], [("h",)])])
        for term in [("a",), ("b",), ("c",), ("a", "f"), ("c", "g"), ("c", "g", "f"), ("b", "g"), ("a", "f", "g")]:
            for number in (0, 1):
                saying = book[number]
                possible = walks(web, term, saying.triggers())
                self.assertIs(can_make(book, web, number, term), possible)
                self.assertIs(is_new(book, web, number, term), possible and not walks(web, term, saying.makes()))
                told = (number, web[term])
                self.assertIs(can_make(book, web, number, term), told in instances(book, web))
                self.assertIs(is_new(book, web, number, term), told in new_instances(book, web))

    def test_all_triggers_and_some_make(self):
        book = Book([Saying([("f",), ("g", "f")], [("f", "f"), ("g",)])])
        rows = [
            ([("a", "f")], False, False), ([("a", "g", "f")], False, False), ([("a", "f"), ("a", "g", "f")], True, True),
            ([("a", "f", "f"), ("a", "g", "f")], True, False), ([("a", "f", "f"), ("a", "g")], False, False),
        ]
        for terms, possible, new in rows:
            self.assertIs(can_make(book, Web(terms=terms), 0, ("a",)), possible)
            self.assertIs(is_new(book, Web(terms=terms), 0, ("a",)), new)

    def test_returned_lists_are_new(self):
        book = Book([UP])
        for action in (instances, new_instances):
            before = action(book, CHAIN)
            action(book, CHAIN).clear()
            self.assert_same(action(book, CHAIN), before)
            self.assertTrue(before)

    def test_nothing(self):
        for web in (Web(), Web(["a"])):
            self.assert_same([instances(Book([UP]), web), new_instances(Book(), web)], [[], []])


class OneInstanceTest(unittest.TestCase, Checks):

    def test_what_is_put_in(self):
        for book, web in pairs_of_books_and_webs(60):
            before = repr(web)
            for number, term in plainly_possible(book, web):
                after = after_instance(book, web, number, term)
                self.assert_same(after, plainly_made(book, web, [(number, term)]))
                self.assert_same([knot for knot in after.knots() if knot in web], web.knots())
                self.assertIs(is_new(book, after, number, term), False)
                if not is_new(book, web, number, term):
                    self.assert_same(after, web)
            self.assert_same(repr(web), before)

    def test_by_another_term_of_the_knot(self):
        web = Web([], [("b", "f", "f")], [(("b", "f"), ("a",))])
        after = after_instance(Book([UP]), web, 0, ("b", "f"))
        self.assert_same(after, web + ("a", "f", "g"))
        self.assert_same(after, after_instance(number=0, term=("a",), web=web, book=Book([UP])))

    def test_all_makes_and_a_common_beginning(self):
        book = Book([Saying([("f",)], [("g", "g"), ("g", "h", "f"), ("f", "g")])])
        after = after_instance(book, Web(terms=[("a", "f")]), 0, ("a",))
        self.assert_same(after.knots(), [("a",), ("a", "f"), ("a", "g"), ("a", "f", "g"), ("a", "g", "g"),
                                         ("a", "g", "h"), ("a", "g", "h", "f")])

    def test_cannot_be_made(self):
        book = Book([UP, OUTWARD])
        web = Web([], [("a", "f")], [(("b",), ("a",)), (("c",), ("a", "f"))])
        for number, term in [(1, ("a",)), (1, ("b",)), (0, ("c",)), (0, ("b", "f")), (1, ("a", "f"))]:
            self.assertIs(can_make(book, web, number, term), False)
            self.assertIs(is_new(book, web, number, term), False)
            # What was passed is told, not the least term.
            self.assert_raises(CantMake, {"number": number, "term": term}, after_instance, book, web, number, term)

    def test_too_many_knots(self):
        names = [one + two for one in "abcdefghijklmnopqrstuvwxyz" for two in "abcdefghijklmnop"]
        full = Web(names[:397], [(names[0], "f", "f")])
        self.assert_same(len(full), 399)
        self.assert_same(len(after_instance(Book([UP]), full, 0, (names[0],))), 400)
        wide = Book([Saying([("f",)], [("g", "g")])])
        self.assert_too_many("knots", 400, after_instance, wide, full, 0, (names[0],))
        self.assert_same(len(after_instance(Book([Saying([("f",)], [("f", "f")])]), full, 0, (names[0],))), 399)

    def test_wrong_parameters(self):
        book, a = Book([UP, INWARD]), ("a",)
        unknown = wrong(UnknownTerm, [("c",), ("a", "g"), ("a", "f", "f", "f"), ("f",)])
        rows = {"book": no_books(), "web": no_webs(), "number": no_numbers(2), "term": no_terms() + unknown}
        good = {"book": book, "web": CHAIN, "number": 0, "term": a}
        for action in (can_make, is_new, after_instance):
            self.assert_parameters(action, good, rows)
            for number in (0, 1):
                self.assert_invalid(UnknownTerm, ("b",), action, book, CHAIN, number, ("b",))

    def test_lists_of_wrong_parameters(self):
        rows = {"book": no_books(), "web": no_webs()}
        for action in (instances, new_instances, after_round, rounds_of, end_of, sure_instances):
            self.assert_parameters(action, {"book": Book([UP]), "web": CHAIN}, rows)


class RoundsTest(unittest.TestCase, Checks):

    def test_one_round(self):
        for book, web in pairs_of_books_and_webs():
            before = repr(web)
            after = after_round(book, web)
            self.assert_same(after, plainly_made(book, web, plainly_new(book, web)))
            self.assert_same(repr(web), before)

    def test_at_once(self):
        # What a round puts in wakes nothing in this round.
        book = Book([Saying([("f",)], [("g",)]), Saying([("g",)], [("h",)]), Saying([("f",), ("h",)], [("g", "g")])])
        web = Web(terms=[("a", "f")])
        rows = [after.knots()[2:] for after in each_round(book, web)]
        last = [("a", "g"), ("a", "h"), ("a", "g", "g"), ("a", "g", "h")]
        self.assert_same(rows, [last[:1], last[:2], last[:3], last])

    def test_knots_that_two_instances_put_in(self):
        book = Book([Saying([("f",)], [("f", "g", "g")]), Saying([("g", "f")], [("g", "h")])])
        web = Web(terms=[("a", "f")])
        self.assert_same(len(after_round(Book([UP, UP]), web)), 3)
        self.assert_same(after_round(book, web).knots(), [("a",), ("a", "f"), ("a", "f", "g"), ("a", "f", "g", "g")])
        both = Book([Saying([("f",)], [("f", "g", "g")]), Saying([("h",)], [("g", "f")])])
        self.assert_same(after_round(both, Web(terms=[("a", "f", "h")])).knots()[2:],
                         [("a", "f", "g"), ("a", "f", "h"), ("a", "f", "g", "f"), ("a", "f", "g", "g")])

    def test_each_round(self):
        for book, web in pairs_of_books_and_webs(60):
            webs, rests = plain_rounds(book, web)
            found = []
            generator = each_round(book, web)
            for after in webs:
                found.append(next(generator))
            self.assert_same(found, webs)
            if rests:
                self.assertEqual(list(generator), [])
                self.assert_same(rounds_of(book, web), len(webs))
                self.assert_same(end_of(book, web), webs[-1] if webs else web)

    def test_more_than_400(self):
        for book, web in [(Book([LOOP]), Web(terms=[("a", "g")])), (Book([UP, BACK]), Web(terms=[("a", "f")])),
                          (Book([Saying([("f",)], [("f", "f"), ("g", "f"), ("f", "g", "f")])]), CHAIN)]:
            found = []
            generator = each_round(book, web)
            while (error := error_or_none(lambda: found.append(next(generator)))) is None:
                self.assertLessEqual(len(found[-1]), 400)
            self.assertIs(type(error), TooMany)
            self.assert_same([error.what, error.limit], ["knots", 400])
            self.assertGreater(len(found), 1)
            self.assert_too_many("knots", 400, after_round, book, found[-1])
            self.assert_too_many("knots", 400, rounds_of, book, web)
            self.assert_too_many("knots", 400, end_of, book, web)

    def test_at_rest(self):
        for web in (Web(), CHAIN, ROUND):
            self.assert_same(list(each_round(Book(), web)), [])
            self.assert_same([rounds_of(Book(), web), end_of(Book(), web), after_round(Book(), web)], [0, web, web])

    def test_for_ever(self):
        web = Web(terms=[("a", "f")])
        generator = each_round(EVER, web)
        found = [len(next(generator)) for _ in range(398)]
        self.assert_same(found, list(range(3, 401)))
        self.assert_too_many("knots", 400, next, generator)
        self.assert_too_many("knots", 400, rounds_of, EVER, web)
        self.assert_too_many("knots", 400, end_of, EVER, web)
        self.assert_too_many("knots", 400, after_round, EVER, end_like(400))
        self.assert_same(len(after_round(EVER, end_like(399))), 400)

    def test_generators_look_when_the_iteration_begins(self):
        for value, kind, parts in no_books():
            generator = each_round(value, None)
            self.assert_raises(kind, parts, next, generator)
        for value, kind, parts in no_webs():
            generator = each_round(web=value, book=Book())
            self.assert_raises(kind, parts, next, generator)
        self.assertIs(type(error_of(next, each_round(None, None))), InvalidBook)
        self.assertIs(type(error_of(next, each_round(Book(), None))), InvalidWeb)

    def test_webs_that_go_round(self):
        web = Web(pairs=[(("a", "f"), ("a",))])
        self.assert_same(end_of(EVER, web), web)
        self.assert_same(end_of(Book([UP]), web).leads(), [(("a",), "f", ("a",)), (("a",), "g", ("a", "g"))])
        self.assert_same(rounds_of(Book([UP]), web), 1)
        self.assert_too_many("knots", 400, end_of, Book([LOOP]), Web(terms=[("a", "g")]))

    def test_whatever_order(self):
        chance = random.Random(42)
        for book, web, end in resting_pairs(60)[::3]:
            for _ in range(3):
                now, made = web, 0
                while True:
                    found = new_instances(book, now)
                    if not found:
                        break
                    now = after_instance(book, now, *chance.choice(found))
                    made += 1
                self.assert_same(now, end)
                self.assertLessEqual(made, len(end) - len(web))


def end_like(knots):
    """A web with so many knots from which EVER puts in one knot more."""
    names = [one + two for one in "abcdefghijklmnopqrstuvwxyz" for two in "abcdefghijklmnop"]
    return Web(names[:knots - 1], [(names[0], "f")])


class WithoutTest(unittest.TestCase, Checks):

    def test_nothing_left_out(self):
        for book, web, end in resting_pairs(80):
            for told in ([], ()):
                self.assert_same(end_of(book, web, without=told), end)

    def test_random_ones_left_out(self):
        chance = random.Random(43)
        for book, web, end in resting_pairs(60):
            terms = end.knots()
            if not len(book) or not terms:
                continue
            told = [(chance.randrange(len(book)), chance.choice(terms)) for _ in range(chance.randint(1, 4))]
            held = list(told)
            webs, rests = plain_rounds(book, web, told)
            self.assertTrue(rests)
            self.assert_same(end_of(book, web, without=told), webs[-1] if webs else web)
            self.assert_same(told, held)

    def test_whichever_term_of_the_knot(self):
        web = Web([], [("b", "f", "f")], [(("b", "f"), ("a",)), (("c",), ("a",))])
        for term in [("a",), ("b", "f"), ("c",)]:
            self.assert_same(end_of(Book([UP]), web, without=[(0, term)]), web + ("b", "f", "g"))
        self.assert_same(end_of(Book([UP]), web, without=[(0, ("b",))]), web + ("a", "f", "g"))
        looped = Web(pairs=[(("a", "f"), ("a",))])
        for many in range(8):
            self.assert_same(end_of(Book([UP]), looped, without=((0, ("a",) + ("f",) * many),)), looped)

    def test_a_term_that_comes_later(self):
        book = Book([Saying([("f",)], [("g", "h")]), Saying([("h",)], [("g",)])])
        web = Web(terms=[("a", "f")])
        self.assert_same(end_of(book, web).knots()[2:], [("a", "g"), ("a", "g", "g"), ("a", "g", "h")])
        self.assert_same(end_of(book, web, without=[(1, ("a", "g"))]).knots()[2:], [("a", "g"), ("a", "g", "h")])
        self.assert_same(end_of(book, web, without=[(0, ("a",))]), web)
        for never in [(0, ("z",)), (0, ("a", "h")), (1, ("a", "f", "f", "f"))]:
            self.assert_same(end_of(book, web, without=[never]), end_of(book, web))

    def test_a_later_term_that_is_not_the_least(self):
        # The knot of b.g comes with the first round; a.f.g is the same one.
        web = Web([], [("a", "f", "f")], [(("b",), ("a", "f"))])
        book = Book([Saying([("f",)], [("f", "g", "h")]), Saying([("h",)], [("g",)])])
        whole = end_of(book, web)
        self.assert_same([whole[("a", "f", "g", "g")], whole[("b", "f", "g", "g")]], [("b", "g", "g"), ("b", "f", "g", "g")])
        for term in [("b", "g"), ("a", "f", "g")]:
            self.assert_same([knot for knot in whole.knots() if knot not in end_of(book, web, without=[(1, term)])],
                             [("b", "g", "g")])
        for term in [("b", "f", "g"), ("a", "f", "f", "g")]:
            self.assert_same([knot for knot in whole.knots() if knot not in end_of(book, web, without=[(1, term)])],
                             [("b", "f", "g", "g")])

    def test_leaving_out_brings_rest(self):
        web = Web(terms=[("a", "f")])
        self.assert_same(end_of(EVER, web, without=[(0, ("a", "f", "f", "f"))]).knots()[-1], ("a", "f", "f", "f", "f"))
        self.assert_same(end_of(EVER, web, without=[(0, ("a",))]), web)
        self.assert_too_many("knots", 400, end_of, EVER, web, without=[(0, ("a", "g"))])
        self.assert_too_many("knots", 400, end_of, Book([EVER[0], EVER[0]]), web, without=[(0, ("a",))])

    def test_wrong_lists(self):
        book = Book([UP, INWARD])
        for value in no_lists():
            self.assert_raises(InvalidInstances, {"position": None}, end_of, book, CHAIN, without=value)
        a = ("a",)
        values = any_values() + [
            (2, a), (-1, a), (True, a), (False, a), (None, a), ("0", a), (0, "a"), (0, ["a"]), (0, ()), (0, None), [0, a],
            (0, a, a), (a, 0), (0,), (a,), (0, ("a", "F")), (0, (a,)), ((0, a),), {0: a}, (10 ** 40, a), (1, ("a", 1)),
        ]
        for value in values:
            if type(value) is tuple and len(value) == 2 and value[0] == 0 and plain_term(value[1]) and (
                    type(value[0]) is int):
                continue
            for at in range(3):
                told = [(0, a), (1, ("z", "f")), (0, a)]
                told[at] = value
                self.assert_raises(InvalidInstances, {"position": at}, end_of, book, CHAIN, without=told)
                self.assert_raises(InvalidInstances, {"position": at}, end_of, book, CHAIN, without=(*told, None))
        self.assert_raises(InvalidInstances, {"position": 0}, end_of, EVER, Web(terms=[("a", "f")]), without=[(1, a)])
        self.assert_raises(InvalidInstances, {"position": 0}, end_of, Book(), CHAIN, without=[(0, a)])

    def test_errors_in_sequence(self):
        self.assert_raises(InvalidBook, {"value": None}, end_of, None, None, without=None)
        self.assert_raises(InvalidWeb, {"value": 1}, end_of, Book(), 1, without=None)
        with self.assertRaises(TypeError):
            end_of(Book(), Web(), [])


def rest_without(book, web, barred, seen):
    """Whether some row of new instances without the barred one leads to rest."""
    if repr(web) in seen:
        return False
    seen.add(repr(web))
    found = plainly_new(book, web)
    if not found:
        return True
    return any(rest_without(book, after_instance(book, web, *row), barred, seen) for row in found if row != barred)


class SureTest(unittest.TestCase, Checks):

    def test_in_each_row_that_leads_to_rest(self):
        chance = random.Random(46)
        tried = 0
        for _ in range(400):
            book, web = random_short_book(chance), random_web(chance, "fgh", 2)
            webs, rests = plain_rounds(book, web)
            if not rests or not webs or len(webs[-1]) - len(web) > 5:
                continue
            end = webs[-1]
            sure = [row for row in [(number, term) for number in range(len(book)) for term in end.knots()]
                    if not rest_without(book, web, row, set())]
            self.assert_same(sure_instances(book, web), sure)
            tried += len(sure)
        self.assertGreater(tried, 60)

    def test_as_the_end_under_all_others_tells(self):
        for book, web, end in resting_pairs(60)[::2]:
            if len(end) > 40:
                continue
            found = []
            for number in range(len(book)):
                for term in end.knots():
                    others = end_of(book, web, without=[(number, term)])
                    if walks(others, term, book[number].triggers()) and not walks(others, term, book[number].makes()):
                        found.append((number, term))
            self.assert_same(sure_instances(book, web), found)

    def test_equal_sayings_are_not_sure(self):
        web = Web(terms=[("a", "f")])
        self.assert_same(sure_instances(Book([UP]), web), [(0, ("a",))])
        self.assert_same(sure_instances(Book([UP, UP]), web), [])
        self.assert_same(sure_instances(Book([UP, Saying([("f",)], [("f", "g"), ("h",)])]), web), [(1, ("a",))])

    def test_nothing_new(self):
        self.assert_same(sure_instances(Book(), CHAIN), [])
        self.assert_same(sure_instances(Book([UP]), Web()), [])
        self.assert_same(sure_instances(Book([UP]), Web(terms=[("a", "f", "g")])), [])

    def test_told_by_least_terms_in_order(self):
        web = Web([], [("b", "f", "g", "f", "f"), ("a", "f")], [(("c",), ("b", "f", "g"))])
        self.assert_same(sure_instances(Book([FALL, UP]), web)[-2:], [(1, ("c",)), (1, ("c", "f"))])

    def test_sixty_knots(self):
        names = [one + two for one in "abcdefghijklmnopqrstuvwxyz" for two in "abcdefghijklmnop"]
        self.assert_same(sure_instances(Book([UP]), Web(names[:58], [(names[0], "f")])), [(0, (names[0],))])
        self.assert_same(sure_instances(Book(), Web(names[:60])), [])
        self.assert_too_many("knots", 60, sure_instances, Book([UP]), Web(names[:59], [(names[0], "f")]))
        self.assert_too_many("knots", 60, sure_instances, Book(), Web(names[:61]))
        self.assert_too_many("knots", 60, sure_instances, Book(), Web(names[:400]))
        self.assert_too_many("knots", 60, sure_instances, EVER, Web(terms=[("a", "f")]))
        self.assert_too_many("knots", 60, sure_instances, Book([LOOP]), Web(terms=[("a", "g")]))


FALL = Saying([("g", "f"), ("f",)], [("h",)])


if __name__ == "__main__":
    unittest.main()
