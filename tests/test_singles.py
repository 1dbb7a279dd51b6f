"""Single webs, rest papers and run papers: [2], [4], [65] to [67]."""

import random
import unittest

from helping import (
    BACK, INWARD, LOOP, OUTWARD, UP, Checks, any_values, changed_part, no_books, no_fronts, no_lists, no_terms, no_webs,
    plain_lasso, plain_letter, plain_line, plain_list, plain_ranked, plain_term, plain_word, random_book, random_front,
    random_short_book, random_web, some_books, some_webs, wrong,
)
from naive import is_rest_one, is_run_one, new_ones, size_and_depth, standing_words
from test_ending import GREAT
from wakesayings.books import Book
from wakesayings.coming import coming_front
from wakesayings.ending import front_depth, front_size, is_lasso
from wakesayings.errors import TooMany, UnknownTerm
from wakesayings.fronts import Front
from wakesayings.making import each_round, end_of
from wakesayings.rounds import rested, rows_of
from wakesayings.sayings import Saying
from wakesayings.singles import (
    ever_there, goes_on, is_rest_paper, is_run_paper, new_leads, rest_paper, run_paper, standing_at, web_depth, web_size,
)
from wakesayings.webs import Web, leads_of_web

ONE = Book([UP])
TWO = Book([UP, BACK])
GROWING = Book([LOOP])
BEGIN = Front([("f",)])
NEAR = Front([("g",)])
CHAIN = Web(terms=[("a", "f", "f")])
# Its least terms are a, a.f and a.f.f; by ONE a letter g is new at a.f and at a.f.f.
REST = ({("a",): Front([("f", "f", "g"), ("f", "g")]), ("a", "f"): Front([("f", "g"), ("g",)]), ("a", "f", "f"): NEAR},
        [(Front(), Front(), 0)])
POINT = Web(["a"], [("a", "g")])
LINES = [(NEAR, ("g",), "told"), (NEAR, ("f",), 0), (NEAR, ("f", "g"), 0)]
LASSO = ([NEAR, NEAR], ["f"], 0, LINES)
RUN = (("a",), "f", [(("a",), ("g",), "told"), (("a",), ("f",), 0), (("a",), ("f", "g"), 0)], LASSO)


def some_pairs(many=80):
    """Books and webs: empty ones, trees, things at one knot, leads that go round, letters that the book lacks."""
    chance = random.Random(65)
    webs = some_webs()
    rows = [(book, web) for book in some_books() for web in webs[:12]]
    rows += [(random_book(chance, 5), random_web(chance, chance.choice(["fg", "fgh", "fx"]))) for _ in range(many)]
    return rows + [(random_short_book(chance), random_web(chance, chance.choice(["fg", "fgh", "gx"]), 5))
                   for _ in range(2 * many)]


def plain_place(value):
    return isinstance(value, Front) or plain_term(value)


def plain_web_line(value):
    if type(value) is not tuple or len(value) != 3:
        return False
    if isinstance(value[0], Front):
        return plain_line(value)
    if not plain_term(value[0]) or not plain_word(value[1]):
        return False
    reason = value[2]
    if type(reason) is tuple and len(reason) == 2 and reason[0] == "up" and plain_letter(reason[1]):
        return True
    if type(reason) is tuple and len(reason) == 3:
        return reason[0] == "down" and plain_letter(reason[1]) and plain_term(reason[2])
    return plain_line((BEGIN, (), reason))


def plain_run(value):
    return (type(value) is tuple and len(value) == 4 and plain_term(value[0]) and plain_letter(value[1])
            and plain_list(value[2]) and all(plain_web_line(line) for line in value[2]) and plain_lasso(value[3]))


def plain_rest(value):
    return (type(value) is tuple and len(value) == 2 and type(value[0]) is dict and plain_ranked(value[1])
            and all(plain_term(term) and isinstance(value[0][term], Front) for term in value[0]))


def built(book, web, limit=400):
    """The leads of the end, and its size and depth above the web; None if it would have more knots than the limit."""
    try:
        leads, _ = rested(rows_of(book), leads_of_web(web), limit, [])
    except TooMany:
        return None
    depths = {knot: 0 for knot in range(len(web) + 1)}
    for (knot, _), to in sorted(leads.items(), key=lambda row: row[1]):
        if to not in depths:
            depths[to] = depths[knot] + 1
    return leads, len(depths) - 1, max(depths.values())


class StandingTest(unittest.TestCase, Checks):

    def test_examples(self):
        for term, front in REST[0].items():
            self.assert_same(standing_at(ONE, CHAIN, term), front)
        self.assert_same(standing_at(GROWING, POINT, ("a",)), Front([("g",), ("f", "g"), ("f", "f", "g"), ("f", "f", "f")]))
        self.assert_same(standing_at(term=("a", "g"), web=POINT, book=GROWING), Front())

    def test_what_comes_at_one_knot_stands_at_others(self):
        # Above: what comes at a.f stands at a behind f. Below: what comes at a behind f stands at a.f.
        web = Web(terms=[("a", "f", "g")])
        up = Book([Saying([("g",)], [("h",)])])
        self.assert_same(standing_at(up, web, ("a",)), Front([("f", "g"), ("f", "h")]))
        down = Book([Saying([("f", "g")], [("f", "h")])])
        self.assert_same(standing_at(down, web, ("a", "f")), Front([("g",), ("h",)]))
        # And on to what the letter leads from elsewhere.
        both = Web([], [("a", "f", "g")], [(("b", "h"), ("a", "f"))])
        self.assert_same(standing_at(down, both, ("b",)), Front([("h", "g"), ("h", "h")]))

    def test_leads_that_go_round(self):
        web = Web(pairs=[(("a", "f"), ("a",))])
        self.assert_same(standing_at(ONE, web, ("a",)), Front([
            ("f", "f", "f"), ("f", "f", "g"), ("f", "g"), ("g",)]))
        self.assert_same(new_leads(ONE, web), [(("a",), "g")])
        self.assert_same([web_size(ONE, web), web_depth(ONE, web), goes_on(ONE, web)], [2, 1, False])
        self.assertIs(ever_there(ONE, web, ("a", "f", "f", "f", "f", "f", "g")), True)
        self.assertIs(ever_there(ONE, web, ("a", "f", "f", "f", "f", "f", "g", "f")), False)
        # A book that goes on from the front of the same words does not go on where the lead goes round.
        more = Book([Saying([("f",)], [("f", "f")])])
        self.assert_same([goes_on(more, web), web_size(more, web), goes_on(more, Web.of(BEGIN))], [False, 1, True])

    def test_letters_that_the_book_lacks(self):
        web = Web([], [("a", "x", "f"), ("a", "x", "y", "z")])
        self.assert_same(standing_at(ONE, web, ("a",)), Front([("x", "f", "g"), ("x", "y", "z")]))
        self.assert_same(new_leads(ONE, web), [(("a", "x", "f"), "g")])
        self.assertIs(ever_there(ONE, web, ("a", "x", "f", "g")), True)
        self.assertIs(ever_there(ONE, web, ("a", "x", "f", "x")), False)

    def test_any_term_of_the_knot(self):
        web = Web([], [("a", "f", "g")], [(("b",), ("a", "f"))])
        for one, another in [(("b",), ("a", "f")), (("b", "g"), ("a", "f", "g"))]:
            self.assert_same(standing_at(TWO, web, one), standing_at(TWO, web, another))
        self.assert_invalid(UnknownTerm, ("a", "g"), standing_at, TWO, web, ("a", "g"))
        self.assert_invalid(UnknownTerm, ("c",), standing_at, TWO, web, ("c",))

    def test_the_web_of_a_front(self):
        chance = random.Random(66)
        for _ in range(60):
            book, front = random_book(chance), random_front(chance)
            self.assert_same(standing_at(book, Web.of(front), ("x",)), coming_front(book, front))
            self.assert_same(web_size(book, Web.of(front)), front_size(book, front))
            self.assertIs(goes_on(book, Web.of(front)), front_size(book, front) is None)
            # The depth of the front counts its own letters, too.
            if front_depth(book, front) is not None:
                self.assertLessEqual(web_depth(book, Web.of(front)), front_depth(book, front))

    def test_as_the_plain_words_say(self):
        for book, web in some_pairs():
            before = repr(book), repr(web)
            held = standing_words(book, web)
            for term in web.knots():
                self.assert_same(standing_at(book, web, term), Front(sorted(held[term])))
            new = new_ones(book, web)
            self.assert_same(new_leads(book, web), [row[:2] for row in new])
            self.assert_same(new_leads(web=web, book=book), [row[:2] for row in new])
            measures = [size_and_depth(book, behind) for _, _, behind in new]
            self.assertIs(goes_on(book, web), None in measures)
            self.assertIs(goes_on(web=web, book=book), None in measures)
            if None in measures:
                self.assert_same([web_size(book, web), web_depth(book, web)], [None, None])
            else:
                self.assert_same(web_size(book, web), len(web) + sum(size for size, _ in measures))
                self.assert_same(web_depth(book, web), max([1 + depth for _, depth in measures], default=0))
            self.assert_same((repr(book), repr(web)), before)

    def test_as_rounds_make(self):
        rests = goes = 0
        chance = random.Random(67)
        for book, web in some_pairs():
            made = built(book, web)
            if made is None:
                goes += 1
                self.assertTrue(goes_on(book, web) or web_size(book, web) > 400)
                continue
            rests += 1
            self.assert_same([goes_on(book, web), web_size(web=web, book=book), web_depth(web=web, book=book)],
                             [False, made[1], made[2]])
            end = end_of(book, web)
            for term in web.knots():
                self.assert_same(standing_at(book, web, term), end.front_at(term))
            for term in end.knots():
                self.assertIs(ever_there(book, web, term), True)
            for _ in range(15):
                term = (chance.choice("abc"), *[chance.choice("fghx") for _ in range(chance.randint(0, 6))])
                self.assertIs(ever_there(term=term, web=web, book=book), term in end)
        self.assertGreater(rests, 150)
        self.assertGreater(goes, 20)

    def test_terms_of_books_that_go_on(self):
        seen = 0
        for book, web in some_pairs():
            if goes_on(book, web):
                now = web
                for many, now in enumerate(each_round(book, web)):
                    if len(now) > 80 or many == 5:
                        break
                for term in now.knots()[::5]:
                    seen += 1
                    self.assertIs(ever_there(book, web, term), True)
        self.assertGreater(seen, 100)
        for many in range(1, 29):
            self.assertIs(ever_there(GROWING, POINT, ("a",) + ("f",) * many), True)
            self.assertIs(ever_there(GROWING, POINT, ("a",) + ("f",) * (many - 1) + ("g",)), True)
            self.assertIs(ever_there(GROWING, POINT, ("a",) + ("f",) * (many - 1) + ("g", "f")), False)
            self.assertIs(ever_there(GROWING, POINT, ("b",) + ("f",) * many), False)

    def test_no_thing_is_put_in(self):
        for book, web in some_pairs()[::3]:
            for thing in ("z", "f", "abcdefgh"):
                self.assertIs(ever_there(book, web, (thing,)), False)
                self.assertIs(ever_there(book, web, (thing, "f")), False)
            for thing in web.things():
                self.assertIs(ever_there(book, web, (thing,)), True)

    def test_many_knots(self):
        for book, size, depth in GREAT:
            words = book.full_front().words()
            web = Web(terms=[(thing, *word) for thing in "abcdefghij" for word in words])
            self.assert_same(goes_on(book, web), False)
            self.assert_same(web_size(book, web), 10 * size)
            self.assertRaises(TooMany, end_of, book, web)
            made = built(book, Web(terms=[("a", *word) for word in words]), 2000)
            self.assert_same([10 * made[1], made[2]], [web_size(book, web), web_depth(book, web)])
            self.assertLessEqual(web_depth(book, web), depth)
            self.assertIs(is_rest_paper(book, web, rest_paper(book, web)), True)

    def test_empty_ones(self):
        for book in some_books():
            self.assert_same([new_leads(book, Web()), goes_on(book, Web()), web_size(book, Web()), web_depth(book, Web())],
                             [[], False, 0, 0])
            self.assertIs(ever_there(book, Web(), ("a",)), False)
            self.assert_same([run_paper(book, Web()), is_rest_paper(book, Web(), ({}, []))], [None, True])
        for web in some_webs():
            self.assert_same([new_leads(Book(), web), goes_on(Book(), web), web_size(Book(), web), web_depth(Book(), web)],
                             [[], False, len(web), 0])

    def test_wrong_parameters(self):
        rows = {"book": no_books(), "web": no_webs()}
        good = {"book": ONE, "web": CHAIN}
        for action in (new_leads, goes_on, web_size, web_depth, rest_paper, run_paper):
            self.assert_parameters(action, good, rows)
        self.assert_parameters(ever_there, dict(good, term=("c",)), dict(rows, term=no_terms()))
        unknown = wrong(UnknownTerm, [("b",), ("a", "g"), ("a", "f", "f", "f")])
        self.assert_parameters(standing_at, dict(good, term=("a",)), dict(rows, term=no_terms() + unknown))
        for action in (is_rest_paper, is_run_paper):
            for value in (REST, RUN, None):
                self.assert_parameters(action, dict(good, value=value), rows)

    def test_returned_lists_are_new(self):
        new_leads(ONE, CHAIN).clear()
        self.assert_same(new_leads(ONE, CHAIN), [(("a", "f"), "g"), (("a", "f", "f"), "g")])
        rest_paper(ONE, CHAIN)[0].clear()
        rest_paper(ONE, CHAIN)[1].clear()
        self.assertIs(is_rest_paper(ONE, CHAIN, rest_paper(ONE, CHAIN)), True)
        run_paper(GROWING, POINT)[2].clear()
        run_paper(GROWING, POINT)[3][3].clear()
        self.assertIs(is_run_paper(GROWING, POINT, run_paper(GROWING, POINT)), True)


class RestTest(unittest.TestCase, Checks):

    def test_told_ones(self):
        seen = 0
        for book, web in some_pairs():
            paper = rest_paper(book, web)
            self.assertIs(paper is None, goes_on(book, web))
            self.assertIs(paper is None, run_paper(book, web) is not None)
            if paper is not None:
                seen += 1
                self.assertTrue(plain_rest(paper))
                self.assert_same([type(paper[0]), type(paper[1])], [dict, list])
                self.assertTrue(is_rest_one(book, web, *paper))
                self.assertIs(is_rest_paper(book, web, paper), True)
                self.assertIs(is_rest_paper(value=(paper[0], tuple(paper[1])), web=web, book=book), True)
                self.assert_same(rest_paper(web=web, book=book)[1], paper[1])
                self.assertEqual(rest_paper(web=web, book=book)[0], paper[0])
        self.assertGreater(seen, 150)

    def test_example(self):
        self.assertIs(is_rest_paper(ONE, CHAIN, REST), True)
        self.assertEqual(rest_paper(ONE, CHAIN), REST)
        # The sequence of keys has no meaning.
        turned = {term: REST[0][term] for term in sorted(REST[0], reverse=True)}
        self.assertIs(is_rest_paper(ONE, CHAIN, (turned, REST[1])), True)
        # More may stand there.
        self.assertIs(is_rest_paper(ONE, CHAIN, (dict(REST[0]), REST[1] + [(NEAR, NEAR, 1)])), True)

    def test_a_knot_lacks_or_is_told_otherwise(self):
        for term in REST[0]:
            less = {other: front for other, front in REST[0].items() if other != term}
            self.assertIs(is_rest_paper(ONE, CHAIN, (less, REST[1])), False)
            self.assertIs(is_rest_paper(ONE, CHAIN, (dict(less, b=Front()), REST[1])), False)
            less[("b",)] = REST[0][term]
            self.assertIs(is_rest_paper(ONE, CHAIN, (less, REST[1])), False)
            for value in any_values():
                if not isinstance(value, Front):
                    told = dict(REST[0])
                    told[term] = value
                    self.assertIs(is_rest_paper(ONE, CHAIN, (told, REST[1])), False)
        more = dict(REST[0])
        more[("a", "g")] = Front()
        self.assertIs(is_rest_paper(ONE, CHAIN, (more, REST[1])), False)
        # A knot with two terms is told by its least one.
        web = Web(["b"], [("a", "f")], [(("a", "f"), ("b",))])
        table = [(Front(), Front(), 0)]
        right = {("a",): Front([("f",), ("f", "g")]), ("b",): NEAR}
        self.assertIs(is_rest_paper(ONE, web, (right, table)), True)
        self.assertIs(is_rest_paper(ONE, web, ({("a",): right["a",], ("a", "f"): NEAR}, table)), False)
        both = {("a",): right["a",], ("b",): NEAR, ("a", "f"): NEAR}
        self.assertIs(is_rest_paper(ONE, web, (both, table)), False)

    def test_what_stands_there(self):
        first, second, third = ("a",), ("a", "f"), ("a", "f", "f")
        fronts = [
            # Without a make; without a letter that leads on; less than stands above or below; more than it may be.
            (second, BEGIN), (first, BEGIN), (second, NEAR), (first, Front([("f", "g")])), (first, Front([("f", "f", "g")])),
            (third, Front()), (third, Front([("h",)])), (third, NEAR | Front([("f",)])), (first, Front()), (second, Front()),
        ]
        for term, front in fronts:
            told = dict(REST[0])
            told[term] = front
            right = is_rest_one(ONE, CHAIN, told, REST[1])
            self.assertIs(is_rest_paper(ONE, CHAIN, (told, REST[1])), right)
            self.assertIs(right, False)

    def test_new_leads_need_the_ranked_table(self):
        for table in ([], (), [(BEGIN, Front([("f", "g")]), 0)], [(Front(), BEGIN, 0)], [(Front(), Front(), True)],
                      [(Front(), Front())], [(Front(), Front(), -1)], None, Front(), [(NEAR, NEAR, 0)]):
            self.assertIs(is_rest_paper(ONE, CHAIN, (dict(REST[0]), table)), False, table)
        # A table that is none by its ranks alone.
        ranks = [(Front(), Front(), 0), (NEAR, NEAR, 0)]
        self.assertIs(is_rest_paper(ONE, CHAIN, (dict(REST[0]), ranks)), False)

    def test_what_a_letter_leads_to_needs_no_tuple(self):
        web = Web(pairs=[(("a", "f"), ("a",))])
        book = Book([Saying([("f",)], [("f", "f")])])
        whole = {("a",): Front([("f", "f", "f")])}
        self.assertIs(is_rest_paper(book, web, (whole, [])), True)
        self.assertIs(is_rest_paper(book, web, ({("a",): Front([("f", "f")])}, [])), False)
        self.assertIs(is_rest_paper(book, web, ({("a",): Front()}, [])), False)

    def test_what_is_none(self):
        values = any_values() + no_lists() + [list(REST), REST[:1], REST + (0,), REST[0], REST[1], (REST[1], REST[0])]
        for value in values:
            self.assertIs(is_rest_paper(ONE, CHAIN, value), False)
            self.assertIs(is_rest_paper(ONE, Web(), value), False)
            self.assertIs(is_rest_paper(ONE, CHAIN, (value, REST[1])), value == REST[0])
            self.assertIs(is_rest_paper(ONE, CHAIN, (dict(REST[0]), value)), value == REST[1])
        self.assertIs(is_rest_paper(ONE, Web(), ([], [])), False)
        self.assertIs(is_rest_paper(ONE, Web(), ({}, ())), True)

    def test_changed_ones(self):
        chance = random.Random(68)
        told = {True: 0, False: 0}
        for book, web in some_pairs():
            paper = rest_paper(book, web)
            for _ in range(8 if paper and len(web) else 0):
                changed = changed_part(chance, paper)
                if chance.random() < 0.3:
                    changed = changed_part(chance, changed)
                right = plain_rest(changed) and is_rest_one(book, web, *changed)
                self.assertIs(is_rest_paper(book, web, changed), bool(right), changed)
                told[bool(right)] += 1
        self.assertGreater(min(told.values()), 150)

    def test_none_where_the_book_goes_on(self):
        chance = random.Random(69)
        seen = 0
        for book, web in some_pairs():
            if goes_on(book, web):
                held = {term: standing_at(book, web, term) for term in web.knots()}
                behind = [Front(sorted(row[2])) for row in new_ones(book, web)]
                rows = [(front, coming_front(book, front), rank) for rank, front in enumerate(behind)]
                for _ in range(5):
                    self.assertIs(is_rest_paper(book, web, (held, chance.sample(rows, len(rows)))), False)
                    seen += 1
        self.assertGreater(seen, 50)


class RunTest(unittest.TestCase, Checks):

    def test_told_ones(self):
        seen = 0
        for book, web in some_pairs():
            paper = run_paper(book, web)
            if paper is not None:
                seen += 1
                self.assertTrue(plain_run(paper))
                self.assert_same([type(part) for part in paper], [tuple, str, list, tuple])
                self.assertTrue(is_run_one(book, web, paper))
                self.assertIs(is_run_paper(book, web, paper), True)
                self.assertIs(is_run_paper(value=paper, web=web, book=book), True)
                self.assert_same(run_paper(web=web, book=book), paper)
        self.assertGreater(seen, 40)

    def test_all_reasons_are_told(self):
        found = set()
        for book, web in some_pairs(150):
            for place, _, reason in (run_paper(book, web) or [0, 0, []])[2]:
                if isinstance(place, tuple):
                    found.add(reason[0] if isinstance(reason, tuple) and len(reason) == 3 else
                              "up" if isinstance(reason, tuple) and isinstance(reason[1], str) else type(reason).__name__)
        self.assertEqual(found, {"up", "down", "str", "int", "tuple"})

    def test_example(self):
        self.assertIs(is_run_paper(GROWING, POINT, RUN), True)
        told = (RUN[0], RUN[1], tuple(RUN[2]), (tuple(LASSO[0]), ("f",), 0, tuple(LINES)))
        self.assertIs(is_run_paper(GROWING, POINT, told), True)
        self.assertIs(is_run_paper(GROWING, POINT, (RUN[0], RUN[1], LINES + RUN[2] + LINES, RUN[3])), True)

    def test_the_letter_leads_nowhere(self):
        web = POINT + ("a", "f")
        self.assertIs(is_run_paper(GROWING, web, RUN), False)
        # There it leads on from the knot to which it leads.
        far = [(("a",), ("f", "g"), 0), (("a", "f"), ("g",), ("down", "f", ("a",))),
               (("a", "f"), ("f",), 0), (("a", "f"), ("f", "g"), 0)]
        told = (("a", "f"), "f", RUN[2][:1] + far, LASSO)
        self.assertIs(is_run_paper(GROWING, web, told), True)
        self.assertIs(is_run_paper(GROWING, POINT, told), False)

    def test_the_least_term(self):
        web = Web(["b"], [("a", "g")], [(("a",), ("b",))])
        self.assertIs(is_run_paper(GROWING, web, RUN), True)
        lines = [(("b",), *line[1:]) for line in RUN[2]]
        self.assertIs(is_run_paper(GROWING, web, (("b",), "f", lines, LASSO)), False)
        self.assertIs(is_run_paper(GROWING, web, (("a",), "f", lines + RUN[2], LASSO)), False)
        self.assertIs(is_run_paper(GROWING, web, (("b",), "f", RUN[2], LASSO)), False)
        for value in any_values():
            self.assertIs(is_run_paper(GROWING, POINT, (value, *RUN[1:])), False)
            self.assertIs(is_run_paper(GROWING, POINT, (RUN[0], value, *RUN[2:])), value == "f")
            self.assertIs(is_run_paper(GROWING, POINT, (*RUN[:2], value, RUN[3])), False)
            self.assertIs(is_run_paper(GROWING, POINT, (*RUN[:3], value)), False)

    def test_each_word_of_the_first_front(self):
        for at in range(len(RUN[2])):
            lines = RUN[2][:at] + RUN[2][at + 1:]
            self.assertIs(is_run_paper(GROWING, POINT, (*RUN[:2], lines, LASSO)), False)
        for first in (Front([("g", "g")]), NEAR | Front([("h",)])):
            lines = [(first, ("g",), "told"), (first, ("f",), 0), (first, ("f", "g"), 0)]
            lasso = ([first, NEAR, NEAR], ["f", "f"], 1, lines + LINES)
            self.assertIs(is_lasso(GROWING, lasso), True)
            self.assertIs(is_run_paper(GROWING, POINT, (*RUN[:3], lasso)), False)

    def test_the_first_front_has_no_word_of_three_letters(self):
        book = Book([Saying([("f",)], [("f", "f")]), Saying([("g",)], [("f", "f", "f")])])
        web = Web(terms=[("a", "g")])
        lines = [(("a",), ("g",), "told")] + [(("a",), ("f",) * many, 1) for many in (1, 2, 3)]
        full, half = Front([("f", "f", "f")]), Front([("f", "f")])
        parts = [(full, ("f",) * many, "told") for many in (1, 2, 3)] + [
            (half, ("f",), "told"), (half, ("f", "f"), "told"), (BEGIN, ("f",), "told"), (BEGIN, ("f", "f"), 0),
            (half, ("f", "f", "f"), ("f", BEGIN))]
        self.assertIs(is_run_paper(book, web, (("a",), "f", lines, ([half, half], ["f"], 0, parts))), True)
        lasso = ([full, half, half], ["f", "f"], 1, parts)
        self.assertIs(is_lasso(book, lasso), True)
        self.assertIs(is_run_paper(book, web, (("a",), "f", lines, lasso)), False)

    def assert_lines(self, book, web, lines, right):
        """That web lines are right or wrong, beside those of a run paper about another thing and another saying."""
        more = Web(web.things(), web.knots() + [("t", "g")], web.pairs())
        growing = book + LOOP
        number = len(book)
        lasso = (*LASSO[:3], [(front, word, number if reason == 0 else reason) for front, word, reason in LINES])
        own = [(("t",), word, number if reason == 0 else reason) for _, word, reason in RUN[2]]
        self.assertIs(is_run_paper(growing, more, (("t",), "f", own, lasso)), True)
        for told in (list(lines) + own, own + list(lines)):
            paper = (("t",), "f", told, lasso)
            self.assertIs(is_run_paper(growing, more, paper), right, lines)
            self.assertIs(plain_run(paper) and bool(is_run_one(growing, more, paper)), right, lines)

    def test_told_lines(self):
        web = Web([], [("a", "f", "g")])
        for term, word, right in [
                (("a",), (), True), (("a",), ("f",), True), (("a",), ("f", "g"), True), (("a", "f"), ("g",), True),
                (("a",), ("g",), False), (("a",), ("f", "f"), False), (("a", "f"), ("f",), False)]:
            self.assert_lines(ONE, web, [(term, word, "told")], right)

    def test_lines_by_sayings(self):
        web = Web([], [("a", "f", "g")])
        book = Book([INWARD, OUTWARD])
        told = [(("a",), ("f",), "told"), (("a",), ("f", "g"), "told")]
        for word in [(), ("g",)]:
            self.assert_lines(book, web, told + [(("a",), word, 0)], True)
            self.assert_lines(book, web, told[1:] + [(("a",), word, 0)], False)
            self.assert_lines(book, web, told[:1] + [(("a",), word, 0)], False)
            self.assert_lines(book, web, told[1:] + [(("a",), word, 1)], True)
            # The number 2 is that of the saying of the run paper itself.
            for number in (2, 3, 4, 5, 6, True, False, -1, None, "0", (0,)):
                self.assert_lines(book, web, told + [(("a",), word, number)], False)
            # Triggers at another knot do not count.
            self.assert_lines(book, web, told + [(("a", "f"), word, 0)], False)
        self.assert_lines(book, web, told + [(("a",), ("f",), 0)], False)

    def test_lines_up(self):
        web = Web([], [("a", "f", "g")])
        told = [(("a", "f"), ("g",), "told"), (("a", "f"), (), "told")]
        self.assert_lines(ONE, web, told + [(("a",), ("f", "g"), ("up", "f"))], True)
        self.assert_lines(ONE, web, told + [(("a",), ("f",), ("up", "f"))], True)
        for line in [
                (("a",), ("f", "g"), ("up", "g")), (("a",), ("g",), ("up", "f")), (("a",), (), ("up", "f")),
                (("a",), ("f", "f"), ("up", "f")), (("a", "f"), ("f", "g"), ("up", "f")), (("a",), ("f", "g"), ["up", "f"]),
                (("a",), ("f", "g"), ("up", "f", ("a", "f"))), (("a",), ("f", "g"), ("up", ("f",))),
                (("a",), ("f", "g"), ("up",)), (("a",), ("f", "g"), ("Up", "f")), (("a",), ("f", "g"), ("up", None)),
                (("a",), ("f", "g"), ("down", "f")), (("a",), ("f", "g"), ("f", "f")), (("a",), ("f", "g"), ()),
                (("a",), ("f", "g"), ("told", "f")), (("a",), ("f", "g"), ("f",))]:
            self.assert_lines(ONE, web, told + [line], False)
            self.assert_lines(ONE, web, [line] + told, False)
        # The letter may lead to the knot itself.
        ring = Web(pairs=[(("a", "f"), ("a",))])
        told = [(("a",), ("f",), "told"), (("a",), ("f", "g"), 0), (("a",), ("g",), ("down", "f", ("a",)))]
        self.assert_lines(ONE, ring, told + [(("a",), ("f", "f", "g"), ("up", "f"))], True)
        self.assert_lines(ONE, ring, told[:1] + told[2:], False)

    def test_lines_down(self):
        web = Web(["b"], [("a", "f", "g")])
        book = Book([Saying([("f",)], [("f", "h")])])
        told = [(("a",), ("f",), "told"), (("a",), ("f", "h"), 0)]
        self.assert_lines(book, web, told + [(("a", "f"), ("h",), ("down", "f", ("a",)))], True)
        self.assert_lines(book, web, told + [(("a", "f"), (), ("down", "f", ("a",)))], True)
        for line in [
                (("a", "f"), ("h",), ("down", "g", ("a",))), (("a", "f"), ("g",), ("down", "f", ("a",))),
                (("a",), ("h",), ("down", "f", ("a",))), (("b",), ("h",), ("down", "f", ("a",))),
                (("a", "f"), ("h",), ("down", "f", ("b",))), (("a", "f"), ("h",), ("down", "f")),
                (("a", "f"), ("h",), ("down", "f", "a")), (("a", "f"), ("h",), ("down", "f", ["a"])),
                (("a", "f"), ("h",), ("down", ("f",), ("a",))), (("a", "f"), ("h",), ("up", "f", ("a",))),
                (("a", "f"), ("h",), ("down", "f", ("c",))), (("a", "f"), ("h",), ["down", "f", ("a",)]),
                (("a", "f"), ("h",), ("down", "f", ("a",), 0)), (("a", "f"), ("h",), ("down", "f", NEAR))]:
            self.assert_lines(book, web, told + [line], False)
            self.assert_lines(book, web, [line] + told, False)
        # The knot that it leads from is told by its least term.
        same = Web([], [("a", "f")], [(("b",), ("a",))])
        self.assert_lines(book, same, told + [(("a", "f"), ("h",), ("down", "f", ("a",)))], True)
        self.assert_lines(book, same, told + [(("a", "f"), ("h",), ("down", "f", ("b",)))], False)

    def test_lines_by_letters(self):
        # Behind the new lead g at a.f nothing stands but what came there.
        web = Web([], [("a", "f")])
        book = Book([Saying([("f",)], [("f", "g", "f")]), Saying([("f",)], [("h",)])])
        told = [(("a",), ("f",), "told"), (("a",), ("f", "g"), 0), (("a",), ("f", "g", "f"), 0),
                (("a", "f"), ("g",), ("down", "f", ("a",))), (("a", "f"), ("g", "f"), ("down", "f", ("a",))),
                (BEGIN, ("f",), "told"), (BEGIN, ("h",), 1)]
        last = (("a", "f"), ("g", "h"), ("g", BEGIN))
        self.assert_lines(book, web, told + [last], True)
        for at in range(1, len(told)):
            self.assert_lines(book, web, told[:at] + told[at + 1:] + [last], False)
        for line in [
                (("a",), ("g", "h"), ("g", BEGIN)), (("a", "f"), ("g", "h"), ("f", BEGIN)),
                (("a", "f"), ("h",), ("g", BEGIN)), (("a", "f"), (), ("g", BEGIN)),
                (("a", "f"), ("g", "h"), ("g", Front())), (("a", "f"), ("g", "h"), ("g", Front([("f",), ("g",)])))]:
            self.assert_lines(book, web, told + [line], False)
        # Where the letter leads in the web there may stand more.
        more = web + ("a", "f", "g", "f")
        self.assert_lines(book, more, told + [last], False)

    def test_a_letter_called_up(self):
        # The reason (letter, front) is told by the front, whatever the letter is.
        book = Book([Saying([("g",)], [("up", "g")])])
        near = Front([("g",)])
        lines = [(("a",), ("g",), "told"), (("a",), ("up",), 0), (("a",), ("up", "g"), 0), (near, ("g",), "told"),
                 (near, ("up",), 0), (near, ("up", "g"), 0), (("a",), ("up", "up"), ("up", near))]
        lasso = ([near, near], ["up"], 0, lines[3:6])
        self.assertIs(is_run_paper(book, POINT, (("a",), "up", lines, lasso)), True)
        self.assertIs(is_run_paper(book, POINT, (("a",), "up", lines[:6] + [(("a",), ("up", "up"), ("up", "up"))], lasso)),
                      False)
        told = Web([], [("a", "up", "g")])
        lines = [(("a", "up"), ("g",), "told"), (("a",), ("up", "g"), ("up", "up")),
                 (("a", "up"), ("up",), 0), (("a", "up"), ("up", "g"), 0)]
        self.assertIs(is_run_paper(book, told, (("a", "up"), "up", lines, lasso)), True)

    def test_what_is_none(self):
        values = any_values() + [list(RUN), RUN[:3], RUN + (0,), LASSO, RUN[2], (RUN,), REST]
        for value in values:
            for web in (POINT, Web(), CHAIN):
                self.assertIs(is_run_paper(GROWING, web, value), False)
            told = (*RUN[:2], RUN[2] + [value], LASSO)
            self.assertIs(is_run_paper(GROWING, POINT, told), False)
            for line in [(value, ("g",), "told"), (("a",), value, "told"), (("a",), (), value)]:
                told = (*RUN[:2], RUN[2] + [line], LASSO)
                right = plain_web_line(line) and is_run_one(GROWING, POINT, told)
                self.assertIs(is_run_paper(GROWING, POINT, told), bool(right), line)
            for reason in [(value, NEAR), ("f", value), ("up", value), ("down", value, ("a",)), ("down", "g", value),
                           (value, "f"), (value, "g", ("a",))]:
                told = (*RUN[:2], RUN[2] + [(("a",), ("f", "f"), reason)], LASSO)
                self.assertIs(is_run_paper(GROWING, POINT, told), False, reason)

    def test_changed_ones(self):
        chance = random.Random(70)
        told = {True: 0, False: 0}
        for book, web in some_pairs(150):
            paper = run_paper(book, web)
            for _ in range(25 if paper else 0):
                changed = changed_part(chance, paper)
                if chance.random() < 0.3:
                    changed = changed_part(chance, changed)
                right = plain_run(changed) and is_run_one(book, web, changed)
                self.assertIs(is_run_paper(book, web, changed), bool(right), changed)
                told[bool(right)] += 1
        self.assertGreater(min(told.values()), 60)

    def test_none_where_the_book_ends(self):
        chance = random.Random(71)
        rows = some_pairs(150)
        papers = [run_paper(book, web) for book, web in rows]
        papers = [paper for paper in papers if paper]
        for book, web in rows:
            if not goes_on(book, web):
                for paper in chance.sample(papers, 3):
                    self.assertIs(is_run_paper(book, web, paper), False)
                    self.assertIs(is_run_paper(book, web, changed_part(chance, paper)), False)


if __name__ == "__main__":
    unittest.main()
