"""The examples of the document, as it shows them, and those of README.md."""

import doctest
import pathlib
import unittest

README = pathlib.Path(__file__).resolve().parent.parent / "README.md"

EXAMPLES = {
    "stage 1": r"""
>>> from wakesayings.fronts import Front
>>> front = Front([("f", "g", "f"), ("g",)])
>>> [front.words(), front.letters(), front // "f", front.cut(1), (front // "g").lifted("h")]
[[(), ('f',), ('g',), ('f', 'g'), ('f', 'g', 'f')], ['f', 'g'], Front([('g',), ('g', 'f')]), Front([('f',), ('g',)]), Front([('h',)])]
""",
    "stage 2": r"""
>>> from wakesayings.books import Book
>>> from wakesayings.sayings import Saying
>>> up = Saying([("f",)], [("f", "g")])
>>> fall = Saying([("g", "f"), ("f",)], [("h",)])
>>> book = Book([up, fall]) + up
>>> [fall.triggers(), fall.trigger_front(), book.letters(), book.make_letters(), book.full_front()]
[[('f',), ('g', 'f')], Front([('f',), ('g',), ('g', 'f')]), ['f', 'g', 'h'], ['f', 'g', 'h'], Front([('f',), ('g',), ('h',)])]
>>> [book.kept([2, 0, 2]) == Book([up, up]), len(book | Book([fall, up])), book.without(1).full_front()]
[True, 3, Front([('f',), ('g',)])]
""",
    "stage 3": r"""
>>> from wakesayings.webs import Web
>>> web = Web(["b"], [("a", "f", "g")], [(("a", "f", "f"), ("a", "f")), (("b",), ("a", "f"))])
>>> [web.knots(), web.things(), web[("b", "f", "g")], web.walked(("a",), ("f", "g", "f"))]
[[('a',), ('b',), ('b', 'g')], ['a', 'b'], ('b', 'g'), None]
>>> [web.leads(), web.pairs(), web.is_tree, ("a", "f", "f", "f", "g") in web]
[[(('a',), 'f', ('b',)), (('b',), 'f', ('b',)), (('b',), 'g', ('b', 'g'))], [(('a', 'f'), ('b',)), (('b', 'f'), ('b',))], False, True]
>>> [web.front_at(("b",)).words(), len(web + ("a", "g", "g")), web.with_pair(("a",), ("b",)).knots()]
[[(), ('f',), ('g',), ('f', 'f'), ('f', 'g'), ('f', 'f', 'f'), ('f', 'f', 'g')], 5, [('a',), ('a', 'g')]]
""",
    "stage 4": r"""
>>> from wakesayings.books import Book
>>> from wakesayings.makers import Maker
>>> from wakesayings.making import end_of, new_instances, rounds_of, sure_instances
>>> from wakesayings.sayings import Saying
>>> from wakesayings.webs import Web
>>> inward = Book([Saying([("f",), ("f", "g")], [("g",)])])
>>> chain = Web(terms=[("a", "f", "f", "g")])
>>> [new_instances(inward, chain), rounds_of(inward, chain), sure_instances(inward, chain)]
[[(0, ('a', 'f'))], 2, [(0, ('a',)), (0, ('a', 'f'))]]
>>> [end_of(inward, chain).knots(), len(end_of(inward, chain, without=[(0, ("a", "f"))]))]
[[('a',), ('a', 'f'), ('a', 'g'), ('a', 'f', 'f'), ('a', 'f', 'g'), ('a', 'f', 'f', 'g')], 4]
>>> maker = Maker(inward, chain)
>>> [maker.do_round(), maker.at_rest, maker.finish(), maker.many, maker.undo(), maker.many]
[1, False, 1, 2, None, 1]
""",
    "stage 5": r"""
>>> from wakesayings.books import Book
>>> from wakesayings.coming import coming_front, comes, reached_fronts
>>> from wakesayings.fronts import Front
>>> from wakesayings.lines import is_derivation, wrong_line
>>> from wakesayings.sayings import Saying
>>> from wakesayings.tables import shows, table_of
>>> both = Book([Saying([("f",)], [("f", "g")]), Saying([("g",)], [("g", "f")])])
>>> begin = Front([("f",)])
>>> [coming_front(both, begin), comes(both, begin, ("g",)), reached_fronts(both, begin)]
[Front([('f',), ('f', 'g'), ('f', 'g', 'f')]), False, [Front([('f',)]), Front([('f',), ('f', 'g')]), Front([('g',), ('g', 'f')])]]
>>> lines = [(begin, ("f",), "told"), (begin, ("f", "g"), 0)]
>>> [is_derivation(both, begin, ("f", "g"), lines), wrong_line(both, lines), wrong_line(both, lines[1:])]
[True, None, 0]
>>> one = Book([Saying([("f",)], [("f", "g")])])
>>> table_of(one, begin)
[(Front([]), Front([])), (Front([('f',)]), Front([('f',), ('f', 'g')])), (Front([('g',)]), Front([('g',)]))]
>>> [shows(one, begin, ("g",), table_of(one, begin)), shows(one, begin, ("f", "g"), table_of(one, begin))]
[True, False]
""",
    "stage 6": r"""
>>> from wakesayings.books import Book
>>> from wakesayings.ending import ends, front_depth, front_size, is_lasso
>>> from wakesayings.fronts import Front
>>> from wakesayings.sayings import Saying
>>> from wakesayings.singles import ever_there, goes_on, new_leads, web_size
>>> from wakesayings.webs import Web
>>> up = Book([Saying([("f",)], [("f", "g")])])
>>> [ends(up), front_size(up, Front([("f", "f")])), front_depth(up, Front([("f", "f")]))]
[True, 5, 3]
>>> loop = Book([Saying([("g",)], [("f", "g")])])
>>> near = Front([("g",)])
>>> lines = [(near, ("g",), "told"), (near, ("f",), 0), (near, ("f", "g"), 0)]
>>> [ends(loop), is_lasso(loop, ([near, near], ["f"], 0, lines), near), is_lasso(loop, ([near, near], ["f"], 1, lines))]
[False, True, False]
>>> web = Web(["a"], [("a", "g")])
>>> [goes_on(loop, web), new_leads(loop, web), web_size(loop, web), ever_there(loop, web, ("a", "f", "f", "f", "g"))]
[True, [(('a',), 'f')], None, True]
""",
    "stage 7": r"""
>>> from wakesayings.books import Book
>>> from wakesayings.finding import alike, finds_all, first_missed, least_sets, needless
>>> from wakesayings.sayings import Saying
>>> two = Book([Saying([("f",)], [("g",)]), Saying([("g",)], [("h",)])])
>>> one = Book([Saying([("f",)], [("h",)])])
>>> [finds_all(two, one), first_missed(one, two), alike(one, two)]
[True, (0, ('g',)), False]
>>> three = Book(two.sayings() + one.sayings())
>>> [needless(three), least_sets(three)]
[[2], [[0, 1]]]
""",
    "stage 8": r"""
>>> from wakesayings.books import Book
>>> from wakesayings.offers import Offers
>>> from wakesayings.sayings import Saying
>>> from wakesayings.wishes import Wish, cheapest
>>> book = Book([Saying([("f",)], [("f", "g")]), Saying([("g",)], [("g", "f")])])
>>> offers = Offers(book, [[([("f", "f")], 2)], [([("g", "g")], 1), ([("f", "g")], 3)]])
>>> [len(offers), list(offers.choices())]
[6, [(0, 0), (0, 1), (1, 0), (0, 2), (1, 1), (1, 2)]]
>>> cheapest(offers, Wish())
(1, [(0, 1)])
""",
    "stage 9": r"""
>>> from wakesayings.books import Book
>>> from wakesayings.desk import Desk
>>> from wakesayings.sayings import Saying
>>> from wakesayings.texts import text_of
>>> from wakesayings.webs import Web
>>> one = Saying([("f",)], [("f", "g")])
>>> [text_of(Book([one])), text_of(Web(["b"], [("a", "f")], [(("a", "f", "f"), ("a",)), (("b",), ("a",))]))]
['saying f -> f.g\n', 'thing a\nthing b\nterm a.f\nequal b a\nequal a.f.f a\n']
>>> desk = Desk()
>>> desk["once"] = Book([one])
>>> desk["both"] = Book([one, Saying([("g",)], [("g", "f")])])
>>> desk["web"] = Web([], [("a", "f")])
>>> desk.do_all("ends once", "ends both", "size once web", "size both web", "finds once both", "rest once web", "tell web a.g")
['yes', 'no', '3', 'none', '1 g.f', 'done', 'done']
>>> [desk.changes, desk["web"].knots()]
[5, [('a',), ('a', 'f'), ('a', 'g'), ('a', 'f', 'g')]]
""",
}


class ExamplesTest(unittest.TestCase):

    def assert_examples(self, name, text):
        found = doctest.DocTestParser().get_doctest(text, {}, name, None, 0)
        told = []
        result = doctest.DocTestRunner(verbose=False).run(found, out=told.append)
        self.assertGreater(result.attempted, 0)
        self.assertEqual(result.failed, 0, "".join(told))

    def test_examples(self):
        for name, text in EXAMPLES.items():
            self.assert_examples(name, text)

    def test_readme(self):
        # A line with three backticks would be taken for what an example shows.
        self.assert_examples("README.md", README.read_text("ascii").replace("```\n", "\n"))


if __name__ == "__main__":
    unittest.main()
