"""Claims and their papers: [2], [4], [92]."""

import random
import unittest

from helping import (
    BACK, LOOP, UP, Checks, any_values, changed_part, no_lists, plain_lasso, plain_lines, plain_ranked, plain_word,
    random_book, random_front, random_short_book, random_web, some_books, some_webs, with_odd_parts, wrong,
)
from naive import (
    coming_words, first_wrong, is_lasso_one, is_ranked_one, is_rest_one, is_run_one, is_shown, missed_of, new_ones,
    size_and_depth,
)
from test_finding import is_finding, is_missing
from test_singles import plain_rest, plain_run
from wakesayings.books import Book
from wakesayings.ending import is_lasso, is_ranked, lasso_of, ranked_table
from wakesayings.errors import InvalidClaim
from wakesayings.finding import finding_paper, missing_paper
from wakesayings.fronts import Front
from wakesayings.judge import KINDS, is_claim, is_paper, paper_of
from wakesayings.lines import derivation_of
from wakesayings.singles import rest_paper, run_paper
from wakesayings.tables import table_without
from wakesayings.webs import Web

BOOK = Book([UP, BACK])
BEGIN = Front([("f",)])
WEB = Web([], [("a", "f")])
SHAPES = {
    "comes": "bfw", "never comes": "bfw", "ends": "b", "goes on": "b", "ends from": "bf", "goes on from": "bf",
    "rests": "bt", "never rests": "bt", "finds": "bb", "misses": "bb",
}
PARTS = {"b": BOOK, "f": BEGIN, "w": ("f",), "t": WEB}


def some_claims(chance, many):
    """Rows (claim, whether it is true, a judge of values in plain words)."""
    books = some_books()
    webs = some_webs()
    found = []
    for _ in range(many):
        book = chance.choice([chance.choice(books), random_book(chance), random_short_book(chance)])
        other = chance.choice([chance.choice(books), random_short_book(chance), book])
        front = chance.choice([random_front(chance), book.full_front(), Front()])
        web = chance.choice([chance.choice(webs), random_web(chance)])
        word = chance.choice(front.words() + [("f", "g"), ("g",), ()])
        found += claims_of_fronts(book, front, word) + claims_of_others(book, web, other)
    return found


def claims_of_fronts(book, front, word):
    full = book.full_front()
    came = word in coming_words(book, front.words())[frozenset(front.words())]
    ending, ending_from = (size_and_depth(book, row.words()) is not None for row in (full, front))

    def is_right_derivation(value):
        return plain_lines(value) and len(value) > 0 and value[-1][:2] == (front, word) and first_wrong(book, value) is None

    def is_right_table(value):
        form = type(value) in (list, tuple) and all(
            type(row) is tuple and len(row) == 2 and all(isinstance(part, Front) for part in row) for row in value)
        return form and is_shown(book, front, word, value)

    def is_right_ranked(value, asked=full):
        return plain_ranked(value) and is_ranked_one(book, value) and any(asked.is_within(row[0]) for row in value)

    def is_right_lasso(value, asked=None):
        return plain_lasso(value) and is_lasso_one(book, value) and (asked is None or value[0][0].is_within(asked))
    return [
        (("comes", book, front, word), came, is_right_derivation),
        (("never comes", book, front, word), not came, is_right_table),
        (("ends", book), ending, is_right_ranked),
        (("ends from", book, front), ending_from, lambda value: is_right_ranked(value, front)),
        (("goes on", book), not ending, is_right_lasso),
        (("goes on from", book, front), not ending_from, lambda value: is_right_lasso(value, front)),
    ]


def claims_of_others(book, web, other):
    rests = None not in [size_and_depth(book, row[2]) for row in new_ones(book, web)]
    finds = missed_of(book, other) is None
    return [
        (("rests", book, web), rests, lambda value: plain_rest(value) and is_rest_one(book, web, *value)),
        (("never rests", book, web), not rests, lambda value: plain_run(value) and is_run_one(book, web, value)),
        (("finds", book, other), finds, lambda value: is_finding(book, other, value)),
        (("misses", book, other), not finds, lambda value: is_missing(book, other, value)),
    ]


def plain_claim(value):
    kinds = {"b": lambda part: isinstance(part, Book), "f": lambda part: isinstance(part, Front),
             "t": lambda part: isinstance(part, Web), "w": plain_word}
    if type(value) is not tuple or not value or type(value[0]) is not str or value[0] not in SHAPES:
        return False
    shape = SHAPES[value[0]]
    return len(value) == len(shape) + 1 and all(kinds[kind](part) for kind, part in zip(shape, value[1:]))


def good_claims():
    return [(kind, *[PARTS[part] for part in shape]) for kind, shape in SHAPES.items()]


def no_claims():
    values = any_values() + no_lists() + [BOOK, WEB, BEGIN, ("Ends", BOOK), ("ends ", BOOK), ("", BOOK), (None, BOOK),
                                          (BOOK, "ends"), (("ends",), BOOK), (True, BOOK), ("rest", BOOK, WEB), ("ends",)]
    for claim in good_claims():
        values += [list(claim), claim + (BOOK,), claim + (None,), claim[:-1], (claim,), claim[1:], claim[:1] + claim]
        values += [(kind, *claim[1:]) for kind in KINDS]
        values += [claim[:at] + (value,) + claim[at + 1:] for at in range(len(claim)) for value in any_values()[::3]]
        values += [claim[:at] + (value,) + claim[at + 1:] for at in range(1, len(claim))
                   for value in (BOOK, WEB, BEGIN, (), ("f", "g"), ["f"], "f", (BOOK,))]
        values.append(claim[:1] + claim[:0:-1])
    return [value for value in values if not plain_claim(value)]


class ClaimTest(unittest.TestCase, Checks):

    def test_kinds(self):
        self.assert_same(KINDS, ("comes", "never comes", "ends", "goes on", "ends from", "goes on from", "rests",
                                 "never rests", "finds", "misses"))
        self.assert_same(KINDS, tuple(SHAPES))

    def test_claims(self):
        for claim in good_claims():
            self.assertIs(is_claim(claim), True)
            self.assertIs(is_claim(value=claim), True)
        for empty in [("ends", Book()), ("comes", Book(), Front(), ()), ("rests", Book(), Web()), ("finds", Book(), Book())]:
            self.assertIs(is_claim(empty), True)

    def test_no_claims(self):
        values = no_claims()
        self.assertGreater(len(values), 500)
        for value in values:
            self.assertIs(is_claim(value), False, value)
        for value in values[::2] + any_values():
            self.assert_invalid(InvalidClaim, value, paper_of, value)
            self.assert_invalid(InvalidClaim, value, paper_of, claim=value)
            self.assert_invalid(InvalidClaim, value, is_paper, value, None)
            self.assert_invalid(InvalidClaim, value, is_paper, value=[], claim=value)

    def test_all_kinds_of_values(self):
        values = good_claims() + no_claims()
        for value in values:
            self.assertIs(is_claim(value), plain_claim(value))


class PaperTest(unittest.TestCase, Checks):

    def test_each_true_claim_has_one_and_no_false_one_has(self):
        counts = {(kind, truth): 0 for kind in KINDS for truth in (True, False)}
        for claim, truth, judge in some_claims(random.Random(92), 60):
            before = repr(claim)
            paper = paper_of(claim)
            counts[claim[0], truth] += 1
            if truth:
                self.assertNotEqual(paper, "none")
                self.assertTrue(judge(paper))
                self.assertIs(is_paper(claim, paper), True)
                self.assertIs(is_paper(value=paper, claim=claim), True)
            else:
                self.assert_same(paper, "none")
                self.assertIs(is_paper(claim, paper), False)
            self.assertEqual(paper_of(claim=claim), paper)
            self.assertEqual(repr(claim), before)
        self.assertGreater(min(counts.values()), 4, counts)

    def test_papers_are_those_of_the_functions(self):
        for book in some_books()[:8]:
            front, word, web = Front([("g",)]), ("f", "g"), Web(terms=[("a", "g")])
            rows = [
                (("comes", book, front, word), derivation_of(book, front, word)),
                (("never comes", book, front, word), table_without(book, front, word)),
                (("ends", book), ranked_table(book)), (("goes on", book), lasso_of(book)),
                (("ends from", book, front), ranked_table(book, front)),
                (("goes on from", book, front), lasso_of(book, front)),
                (("rests", book, web), rest_paper(book, web)), (("never rests", book, web), run_paper(book, web)),
                (("finds", book, BOOK), finding_paper(book, BOOK)),
                (("misses", book, BOOK), missing_paper(book, BOOK)),
            ]
            for claim, paper in rows:
                self.assertEqual(paper_of(claim), "none" if paper is None else paper)
                self.assertIs(is_paper(claim, paper), paper is not None)

    def test_changed_ones(self):
        chance = random.Random(93)
        counts = {(kind, right): 0 for kind in KINDS for right in (True, False)}
        for claim, truth, judge in some_claims(chance, 60):
            paper = paper_of(claim)
            for _ in range(6 if truth else 0):
                value = changed_part(chance, paper)
                right = bool(judge(value))
                self.assertIs(is_paper(claim, value), right, (claim, value))
                counts[claim[0], right] += 1
        self.assertGreater(min(counts.values()), 3, counts)

    def test_papers_of_other_claims(self):
        chance = random.Random(94)
        rows = some_claims(chance, 20)
        papers = [paper_of(claim) for claim, truth, _ in rows if truth]
        for claim, _, judge in rows:
            for value in chance.sample(papers, 8):
                self.assertIs(is_paper(claim, value), bool(judge(value)))

    def test_any_values(self):
        for claim, _, judge in some_claims(random.Random(95), 2):
            for value in any_values():
                self.assertIs(is_paper(claim, value), bool(judge(value)), (claim, value))

    def test_objects_of_other_classes(self):
        seen = {}
        chance = random.Random(96)
        for claim, truth, _ in some_claims(chance, 12):
            if truth:
                values = list(with_odd_parts(paper_of(claim)))
                for value in chance.sample(values, min(60, len(values))):
                    self.assertIs(is_paper(claim, value), False)
                    seen[claim[0]] = seen.get(claim[0], 0) + 1
            for value in with_odd_parts(claim):
                self.assertIs(is_claim(value), False)
        self.assertEqual(sorted(seen), sorted(KINDS))

    def test_the_full_front_or_any(self):
        # A ranked table for another front does not show that a book ends, but any lasso shows that it does not.
        up, loop = Book([UP]), Book([LOOP])
        table = ranked_table(up, BEGIN)
        self.assertIs(is_ranked(up, table, BEGIN), True)
        self.assertIs(is_paper(("ends", up), table), False)
        self.assertIs(is_paper(("ends from", up, BEGIN), table), True)
        far = Front([("h", "g"), ("g",)])
        lasso = lasso_of(loop, far)
        self.assertIs(is_lasso(loop, lasso), True)
        self.assertIs(is_paper(("goes on", loop), lasso), True)
        self.assertIs(is_paper(("goes on from", loop, far), lasso), True)
        self.assertIs(is_paper(("goes on from", loop, BEGIN), lasso), False)
        self.assertIs(is_paper(("goes on from", loop, Front([("g",)])), lasso), False)

    def test_wrong_parameters(self):
        claims = wrong(InvalidClaim, no_claims()[::3])
        self.assert_parameters(paper_of, {"claim": ("ends", BOOK)}, {"claim": claims})
        self.assert_parameters(is_paper, {"claim": ("ends", BOOK), "value": None}, {"claim": claims})


if __name__ == "__main__":
    unittest.main()
