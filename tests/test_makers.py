"""Makers and trials: [2], and what [41] and [42] ask of them."""

import random
import unittest

from helping import (
    BACK, INWARD, LOOP, UP, Checks, any_values, error_of, error_or_none, no_books, no_numbers, no_terms, no_webs, not_of,
    random_short_book, random_web, wrong,
)
from wakesayings.books import Book
from wakesayings.errors import CantMake, InvalidMaker, InvalidTerm, NothingToUndo, TooMany, UnknownTerm
from wakesayings.makers import Maker, Trial, tried
from wakesayings.making import after_instance, after_round, end_of, instances, new_instances, rounds_of
from wakesayings.sayings import Saying
from wakesayings.webs import Web

CHAIN = Web(terms=[("a", "f", "f", "g")])
FG = Web(terms=[("a", "f")])
EVER = Book([Saying([("f",)], [("f", "f")])])
NAMES = [one + two for one in "abcdefghijklmnopqrstuvwxyz" for two in "abcdefghijklmnop"]


def state(maker):
    return maker.book, maker.web, maker.many, maker.at_rest, maker.fresh()


class MakerChecks(Checks):

    def assert_state(self, maker, book, web, many):
        self.assert_same(maker.book, book)
        self.assert_same(maker.web, web)
        self.assert_same(maker.many, many)
        self.assert_same(maker.fresh(), new_instances(book, web))
        self.assertIs(maker.at_rest, not new_instances(book, web))

    def assert_all_undone(self, maker, states):
        """That the maker goes back through these states, the last one being what it is now."""
        for at in range(len(states) - 1, -1, -1):
            self.assert_same(state(maker), states[at])
            if at:
                self.assertIsNone(maker.undo())
        self.assert_raises(NothingToUndo, {}, maker.undo)
        self.assert_same(state(maker), states[0])


class NewMakerTest(unittest.TestCase, MakerChecks):

    def test_what_it_has(self):
        for book, web in [(Book(), Web()), (Book([INWARD]), CHAIN), (Book([UP]), FG), (EVER, FG)]:
            self.assert_state(Maker(book, web), book, web, 0)
            self.assert_state(Maker(web=web, book=book), book, web, 0)
            self.assert_raises(NothingToUndo, {}, Maker(book, web).undo)

    def test_wrong_parameters(self):
        self.assert_parameters(Maker, {"book": Book(), "web": Web()}, {"book": no_books(), "web": no_webs()})

    def test_returned_lists_are_new(self):
        maker = Maker(Book([INWARD]), CHAIN)
        maker.fresh().clear()
        self.assert_same(maker.fresh(), [(0, ("a", "f"))])

    def test_only_two_properties_of_which_one_is_assigned(self):
        maker = Maker(Book(), Web())
        for name in ("web", "at_rest", "many"):
            self.assertIs(type(error_of(setattr, maker, name, None)), AttributeError)
        self.assert_state(maker, Book(), Web(), 0)


class MakeTest(unittest.TestCase, MakerChecks):

    def test_make(self):
        maker = Maker(Book([INWARD]), CHAIN)
        first = after_instance(maker.book, CHAIN, 0, ("a", "f"))
        self.assertIs(maker.make(0, ("a", "f")), True)
        self.assert_state(maker, Book([INWARD]), first, 1)
        self.assertIs(maker.make(0, ("a", "f")), False)
        self.assert_state(maker, Book([INWARD]), first, 1)
        self.assertIs(maker.make(term=("a",), number=0), True)
        self.assert_state(maker, Book([INWARD]), end_of(Book([INWARD]), CHAIN), 2)
        self.assert_same(maker.at_rest, True)

    def test_make_by_another_term(self):
        maker = Maker(Book([UP]), Web(terms=[("b", "f", "f")], pairs=[(("b", "f"), ("a",))]))
        self.assertIs(maker.make(0, ("b", "f")), True)
        self.assertIs(maker.make(0, ("a",)), False)
        self.assert_same(maker.many, 1)

    def test_errors_change_nothing(self):
        maker = Maker(Book([UP, INWARD]), CHAIN)
        maker.do_round()
        before = state(maker)
        unknown = wrong(UnknownTerm, [("c",), ("a", "g", "g")])
        rows = {"number": no_numbers(2), "term": no_terms() + unknown}
        for number, term in [(1, ("a", "f", "f", "g")), (0, ("a", "f", "f", "g"))]:
            self.assert_raises(CantMake, {"number": number, "term": term}, maker.make, number, term)
        for name, values in rows.items():
            for value, kind, parts in values:
                told = dict({"number": 0, "term": ("a",)}, **{name: value})
                self.assert_raises(kind, parts, maker.make, **told)
        self.assert_raises(*no_numbers(2)[0][1:], maker.make, no_numbers(2)[0][0], None)
        self.assert_same(state(maker), before)
        maker.undo()
        self.assert_state(maker, Book([UP, INWARD]), CHAIN, 0)
        self.assert_raises(NothingToUndo, {}, maker.undo)

    def test_too_many_knots(self):
        full = Web(NAMES[:399], [(NAMES[0], "f")])
        maker = Maker(Book([UP]), full)
        self.assert_same(len(full), 400)
        for action in (maker.do_round, maker.finish, lambda: maker.make(0, (NAMES[0],)), lambda: maker.tell(("a",)),
                       lambda: maker.join(("a",), ("b",))):
            self.assert_too_many("knots", 400, action)
            self.assert_state(maker, Book([UP]), full, 0)
            self.assert_raises(NothingToUndo, {}, maker.undo)


class RoundsTest(unittest.TestCase, MakerChecks):

    def test_do_round(self):
        book = Book([INWARD, UP])
        maker, web, many = Maker(book, CHAIN), CHAIN, 0
        for _ in range(6):
            found = new_instances(book, web)
            self.assert_same(maker.do_round(), len(found))
            web, many = after_round(book, web), many + len(found)
            self.assert_state(maker, book, web, many)
        self.assert_same(maker.at_rest, True)

    def test_all_instances_of_a_round_count(self):
        # Both are new in the web as it is, though each one would leave nothing to the other one.
        maker = Maker(Book([UP, UP]), FG)
        self.assert_same([maker.do_round(), maker.many, maker.do_round(), maker.many], [2, 2, 0, 2])

    def test_finish(self):
        chance = random.Random(44)
        tried_ones = 0
        for _ in range(100):
            book, web = random_short_book(chance), random_web(chance, "fgh", 3)
            if error_or_none(lambda: end_of(book, web)) is not None:
                continue
            maker = Maker(book, web)
            step = Maker(book, web)
            while not step.at_rest:
                step.do_round()
            self.assert_same(maker.finish(), rounds_of(book, web))
            self.assert_state(maker, book, end_of(book, web), step.many)
            maker.undo()
            self.assert_state(maker, book, web, 0)
            tried_ones += 1
        self.assertGreater(tried_ones, 20)

    def test_for_ever(self):
        maker = Maker(EVER, FG)
        maker.do_round()
        before = state(maker)
        self.assert_too_many("knots", 400, maker.finish)
        self.assert_same(state(maker), before)
        self.assert_same([maker.do_round(), maker.many], [1, 2])
        maker.undo()
        maker.undo()
        self.assert_raises(NothingToUndo, {}, maker.undo)


class TellTest(unittest.TestCase, MakerChecks):

    def test_tell_and_join(self):
        maker = Maker(Book([UP]), FG)
        self.assertIsNone(maker.tell(("b", "g")))
        self.assert_state(maker, Book([UP]), FG + ("b", "g"), 0)
        self.assertIsNone(maker.tell(term=("a",)))
        self.assert_state(maker, Book([UP]), FG + ("b", "g"), 0)
        self.assertIsNone(maker.join(("c", "f"), ("a",)))
        web = (FG + ("b", "g")).with_pair(("c", "f"), ("a",))
        self.assert_state(maker, Book([UP]), web, 0)
        self.assertIsNone(maker.join(another=("d",), one=("d",)))
        self.assert_state(maker, Book([UP]), web + ("d",), 0)
        self.assert_same(FG, Web(terms=[("a", "f")]))

    def test_wrong_terms(self):
        maker = Maker(Book([UP]), FG)
        a = ("a",)
        for value, kind, parts in no_terms():
            self.assert_raises(kind, parts, maker.tell, value)
            self.assert_raises(kind, parts, maker.tell, term=value)
            self.assert_raises(kind, parts, maker.join, value, a)
            self.assert_raises(kind, parts, maker.join, a, value)
            self.assert_raises(kind, parts, maker.join, another=None, one=value)
        self.assert_invalid(InvalidTerm, (), maker.join, (), [])
        self.assert_state(maker, Book([UP]), FG, 0)
        self.assert_raises(NothingToUndo, {}, maker.undo)

    def test_set_book(self):
        maker = Maker(Book([UP]), FG)
        maker.do_round()
        web = maker.web
        self.assertIsNone(maker.set_book(Book([UP, BACK])))
        self.assert_state(maker, Book([UP, BACK]), web, 1)
        maker.book = Book()
        self.assert_state(maker, Book(), web, 1)
        maker.set_book(book=Book())
        self.assert_state(maker, Book(), web, 1)
        for book in (Book(), Book([UP, BACK]), Book([UP])):
            maker.undo()
            self.assert_state(maker, book, web, 1)
        maker.undo()
        self.assert_state(maker, Book([UP]), FG, 0)
        self.assert_raises(NothingToUndo, {}, maker.undo)

    def test_no_book(self):
        maker = Maker(Book([UP]), FG)
        for value, kind, parts in no_books():
            self.assert_raises(kind, parts, maker.set_book, value)
            self.assert_raises(kind, parts, maker.set_book, book=value)
            self.assert_raises(kind, parts, setattr, maker, "book", value)
        self.assert_state(maker, Book([UP]), FG, 0)
        self.assert_raises(NothingToUndo, {}, maker.undo)


def changes():
    """Each of the six changes, some of them where nothing is new."""
    return [
        lambda maker: maker.make(*instances(maker.book, maker.web)[0]), lambda maker: maker.do_round(),
        lambda maker: maker.finish(), lambda maker: maker.tell(("b", "f", "g")), lambda maker: maker.tell(("a",)),
        lambda maker: maker.join(("a",), ("b", "f")), lambda maker: maker.join(("a",), ("a",)),
        lambda maker: maker.set_book(Book([UP])), lambda maker: maker.set_book(Book([INWARD, UP])),
        lambda maker: setattr(maker, "book", maker.book),
    ]


class UndoTest(unittest.TestCase, MakerChecks):

    def test_each_change_is_taken_back(self):
        for change in changes():
            for web in (FG, CHAIN, end_of(Book([UP]), FG)):
                maker = Maker(Book([UP]), web)
                states = [state(maker)]
                for _ in range(3):
                    change(maker)
                    states.append(state(maker))
                self.assert_all_undone(maker, states)

    def test_random_rows_of_changes(self):
        chance = random.Random(45)
        for _ in range(40):
            maker = Maker(Book([UP, INWARD]), random_web(chance) + ("a", "f"))
            states = [state(maker)]
            for _ in range(25):
                if len(states) > 1 and chance.random() < 0.3:
                    maker.undo()
                    states.pop()
                else:
                    chance.choice(changes())(maker)
                    states.append(state(maker))
                self.assert_same(state(maker), states[-1])
            self.assert_all_undone(maker, states)

    def test_what_was_made_does_not_count_once_it_is_taken_back(self):
        maker = Maker(Book([INWARD]), CHAIN)
        self.assert_same([maker.do_round(), maker.at_rest, maker.finish(), maker.many, maker.undo(), maker.many],
                         [1, False, 1, 2, None, 1])
        self.assert_same([maker.undo(), maker.many, maker.finish(), maker.many], [None, 0, 2, 2])

    def test_errors_are_no_changes(self):
        maker = Maker(Book([UP]), FG)
        maker.tell(("b",))
        for action in (lambda: maker.tell(None), lambda: maker.join(("a",), 1), lambda: maker.set_book(None),
                       lambda: maker.make(0, ("b",)), lambda: maker.make(7, ("b",))):
            error_of(action)
        maker.undo()
        self.assert_state(maker, Book([UP]), FG, 0)
        self.assert_raises(NothingToUndo, {}, maker.undo)

    def test_three_hundred_changes(self):
        maker = Maker(Book([UP]), FG)
        for _ in range(140):
            maker.do_round()
        for _ in range(140):
            maker.undo()
        self.assert_state(maker, Book([UP]), FG, 0)
        self.assert_raises(NothingToUndo, {}, maker.undo)


class CopyTest(unittest.TestCase, MakerChecks):

    def test_the_same_past(self):
        maker = Maker(Book([INWARD]), CHAIN)
        states = [state(maker)]
        for change in changes()[1:]:
            change(maker)
            states.append(state(maker))
        other = maker.copy()
        self.assertIs(type(other), Maker)
        self.assertIs(other == maker, True)
        self.assert_all_undone(other, states)
        self.assert_all_undone(maker, states)

    def test_they_change_apart(self):
        maker = Maker(Book([INWARD]), CHAIN)
        maker.do_round()
        other = maker.copy()
        before = state(maker)
        other.finish()
        other.set_book(Book([UP]))
        self.assert_same(state(maker), before)
        after = state(other)
        maker.undo()
        maker.tell(("z",))
        self.assert_same(state(other), after)
        for _ in range(3):
            other.undo()
        self.assert_state(other, Book([INWARD]), CHAIN, 0)
        self.assert_raises(NothingToUndo, {}, other.undo)
        maker.undo()
        self.assert_raises(NothingToUndo, {}, maker.undo)


class EqualTest(unittest.TestCase, MakerChecks):

    def test_equal_books_and_webs(self):
        maker = Maker(Book([UP]), FG)
        other = Maker(Book([UP]), FG)
        self.assertIs(maker == other, True)
        self.assertIs(maker != other, False)
        other.do_round()
        self.assertIs(maker == other, False)
        # The past and what was made do not count.
        maker.tell(("a", "f", "g"))
        self.assertIs(maker == other, True)
        self.assertIs(maker == Maker(Book([UP]), end_of(Book([UP]), FG)), True)
        maker.set_book(Book([UP, UP]))
        self.assertIs(maker == other, False)
        self.assertIs(maker != other, True)

    def test_equal_only_to_makers(self):
        maker = Maker(Book([UP]), Web())
        for value in any_values() + [(maker.book, maker.web), Trial(maker), maker.book, maker.web]:
            self.assertIs(maker == value, False)
            self.assertIs(value == maker, False)
            self.assertIs(maker != value, True)


class Stop(Exception):
    pass


class TrialTest(unittest.TestCase, MakerChecks):

    def no_makers(self):
        return not_of(Maker, InvalidMaker) + wrong(InvalidMaker, [Maker, Trial(Maker(Book(), Web()))])

    def test_no_maker(self):
        self.assert_parameters(Trial, {"maker": Maker(Book(), Web())}, {"maker": self.no_makers()})

    def test_a_block_that_is_left_in_the_plain_way(self):
        maker = Maker(Book([UP]), FG)
        with Trial(maker) as held:
            self.assertIs(held, maker)
            held.do_round()
            maker.tell(("b",))
        self.assert_state(maker, Book([UP]), end_of(Book([UP]), FG) + ("b",), 1)
        maker.undo()
        maker.undo()
        self.assert_state(maker, Book([UP]), FG, 0)

    def test_a_block_that_is_left_by_an_error(self):
        for kind in (Stop, ValueError, KeyboardInterrupt, TooMany):
            maker = Maker(Book([UP]), FG)
            maker.tell(("b", "f"))
            states = [state(Maker(Book([UP]), FG)), state(maker)]
            error = kind("what", 1) if kind is TooMany else kind()
            with self.assertRaises(kind) as caught:
                with Trial(maker) as held:
                    held.undo()
                    held.finish()
                    held.book = Book()
                    held.join(("a",), ("a", "f"))
                    raise error
            self.assertIs(caught.exception, error)
            self.assert_all_undone(maker, states)

    def test_an_error_of_the_maker_itself(self):
        maker = Maker(EVER, FG)
        with self.assertRaises(TooMany):
            with Trial(maker):
                maker.do_round()
                maker.finish()
        self.assert_state(maker, EVER, FG, 0)
        self.assert_raises(NothingToUndo, {}, maker.undo)

    def test_an_error_that_is_caught_inside(self):
        maker = Maker(Book([UP]), FG)
        with Trial(maker) as held:
            held.do_round()
            error_of(held.tell, None)
        self.assert_state(maker, Book([UP]), end_of(Book([UP]), FG), 1)

    def test_as_it_was_when_the_block_was_entered(self):
        maker = Maker(Book([UP]), FG)
        trial = Trial(maker)
        maker.tell(("b",))
        with self.assertRaises(Stop):
            with trial:
                maker.tell(("c",))
                raise Stop()
        self.assert_state(maker, Book([UP]), FG + ("b",), 0)
        maker.tell(("d",))
        with self.assertRaises(Stop):
            with trial:
                maker.undo()
                maker.undo()
                raise Stop()
        self.assert_state(maker, Book([UP]), FG + ("b",) + ("d",), 0)

    def test_tried(self):
        maker = Maker(Book([UP]), FG)
        passed = []

        def action(held):
            passed.append(held)
            return held.do_round(), "done"
        self.assert_same(tried(maker, action), (1, "done"))
        self.assertIs(passed[0], maker)
        self.assert_state(maker, Book([UP]), end_of(Book([UP]), FG), 1)
        self.assertIsNone(tried(action=lambda held: None, maker=maker))
        maker.undo()
        self.assert_state(maker, Book([UP]), FG, 0)

    def test_tried_and_left_by_an_error(self):
        maker = Maker(Book([LOOP]), Web(terms=[("a", "g")]))
        maker.do_round()
        before = state(maker)
        error = Stop()

        def action(held):
            held.undo()
            held.set_book(Book())
            raise error
        with self.assertRaises(Stop) as caught:
            tried(maker, action)
        self.assertIs(caught.exception, error)
        self.assert_same(state(maker), before)
        self.assert_too_many("knots", 400, tried, maker, lambda held: held.finish())
        self.assert_same(state(maker), before)
        maker.undo()
        self.assert_raises(NothingToUndo, {}, maker.undo)

    def test_tried_with_no_maker(self):
        calls = []
        for value, kind, parts in self.no_makers():
            self.assert_raises(kind, parts, tried, value, calls.append)
            self.assert_raises(kind, parts, tried, maker=value, action=calls.append)
        self.assertEqual(calls, [])


if __name__ == "__main__":
    unittest.main()
