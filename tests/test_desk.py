"""The desk: [2], [93]."""

import random
import unittest

from helping import (
    BACK, INWARD, LOOP, UP, Checks, any_values, error_of, plain_letter, random_front, random_short_book, random_web,
    some_books, some_webs, wrong,
)
from wakesayings.books import Book
from wakesayings.coming import comes
from wakesayings.desk import Desk
from wakesayings.ending import ends
from wakesayings.errors import (
    CommandFailed, InvalidCommand, InvalidEntry, InvalidName, NothingToUndo, TooMany, UnknownName,
)
from wakesayings.finding import alike, first_missed, least_sets, needless
from wakesayings.fronts import Front
from wakesayings.making import after_round, end_of, rounds_of
from wakesayings.sayings import Saying
from wakesayings.singles import ever_there, web_depth, web_size
from wakesayings.texts import text_of_term
from wakesayings.webs import Web
from wakesayings.words import text_of_word

ONCE = Book([UP])
BOTH = Book([UP, BACK])
WEB = Web([], [("a", "f")])
BEGIN = Front([("f",)])
CHANGING = ["round once web", "rest once web", "tell web a.g", "join web a b.g", "drop web", "undo"]
ASKING = ["ends once", "comes once begin f.g", "size once web", "depth once web", "rounds once web", "ever once web a.f.g",
          "finds once both", "alike once both", "needless both", "least both"]


def a_desk():
    desk = Desk()
    desk["once"] = ONCE
    desk["both"] = BOTH
    desk["web"] = WEB
    desk["begin"] = BEGIN
    return desk


def state(desk):
    """All that a desk has, with all that was before."""
    other = desk.copy()
    found = []
    while True:
        found.append([(name, other[name]) for name in other.names()])
        if not other.changes:
            return found
        other.undo()


def names_and_entries(desk):
    return state(desk)[0]


class EntriesTest(unittest.TestCase, Checks):

    def test_empty(self):
        desk = Desk()
        self.assert_same([desk.names(), len(desk), desk.changes], [[], 0, 0])
        self.assert_raises(NothingToUndo, {}, desk.undo)
        self.assert_invalid(UnknownName, "a", desk.drop, "a")

    def test_entries(self):
        desk = a_desk()
        self.assert_same([desk.names(), len(desk), desk.changes], [["begin", "both", "once", "web"], 4, 4])
        self.assert_same([desk["once"], desk["both"], desk["web"], desk["begin"]], [ONCE, BOTH, WEB, BEGIN])
        self.assertIsNone(desk.put("once", WEB))
        self.assert_same([desk["once"], len(desk), desk.changes], [WEB, 4, 5])
        self.assertIsNone(desk.put(entry=BOTH, name="abcdefgh"))
        self.assertIsNone(desk.drop(name="both"))
        self.assert_same([desk.names(), len(desk), desk.changes], [["abcdefgh", "begin", "once", "web"], 4, 7])
        self.assert_invalid(UnknownName, "both", lambda: desk["both"])

    def test_also_an_equal_entry_is_a_change(self):
        desk = a_desk()
        desk["once"] = ONCE
        desk["once"] = Book([UP])
        self.assert_same([desk.changes, desk["once"]], [6, ONCE])
        desk.undo()
        self.assert_same([desk.changes, desk["once"]], [5, ONCE])

    def test_undo(self):
        desk = a_desk()
        desk["once"] = WEB
        desk.drop("web")
        desk.put("new", BEGIN)
        rows = state(desk)
        for many in range(7):
            self.assertEqual(names_and_entries(desk), rows[many])
            self.assert_same(desk.changes, 7 - many)
            self.assertIsNone(desk.undo())
        self.assert_same([desk.names(), desk.changes], [[], 0])
        self.assert_raises(NothingToUndo, {}, desk.undo)
        desk["a"] = WEB
        self.assert_same([desk.names(), desk.changes], [["a"], 1])

    def test_names(self):
        desk = a_desk()
        for value in any_values() + ["once", "Once", "once ", "web", "both.web", ("once",), ["once"]]:
            self.assertIs(value in desk, type(value) is str and value in ("once", "both", "web", "begin"))
            if value not in desk:
                self.assert_invalid(UnknownName, value, lambda told: desk[told], value)
                self.assert_invalid(UnknownName, value, desk.drop, value)
                self.assert_invalid(UnknownName, value, desk.drop, name=value)
        self.assert_same(desk.changes, 4)

    def test_wrong_names_and_entries(self):
        desk = a_desk()
        names = wrong(InvalidName, [value for value in any_values() if not plain_letter(value)])
        entries = wrong(InvalidEntry, [value for value in any_values() if not isinstance(value, (Book, Front, Web))])
        self.assertGreater(min(len(names), len(entries)), 80)
        self.assert_parameters(a_desk().put, {"name": "a", "entry": BOTH}, {"name": names, "entry": entries})
        for rows, told in ((names, lambda value: (value, BOTH)), (entries, lambda value: ("once", value))):
            for value, kind, parts in rows:
                self.assert_raises(kind, parts, desk.__setitem__, *told(value))
        for value, _, _ in names[::5]:
            self.assert_invalid(InvalidName, value, desk.__setitem__, value, None)
        self.assertEqual(state(desk), state(a_desk()))

    def test_names_are_words_of_commands(self):
        desk = Desk()
        for name in ("ends", "undo", "drop", "size", "least", "round"):
            desk[name] = ONCE
        desk["rest"] = desk["tell"] = WEB
        self.assert_same(desk.do_all("ends ends", "ends undo", "size drop rest", "least least", "round round tell",
                                     "rest size rest", "tell tell tell.f", "drop drop", "finds ends undo", "undo"),
                         ["yes", "yes", "3", "0", "done", "done", "done", "done", "yes", "done"])
        self.assertIn("drop", desk)

    def test_it_is_not_iterated_over(self):
        self.assertIsInstance(error_of(iter, a_desk()), TypeError)
        self.assertIsInstance(error_of(setattr, a_desk(), "changes", 3), AttributeError)

    def test_returned_lists_are_new(self):
        desk = a_desk()
        desk.names().clear()
        self.assert_same(len(desk.names()), 4)


class CommandsTest(unittest.TestCase, Checks):

    def test_examples(self):
        desk = a_desk()
        desk.undo()
        self.assert_same(desk.do_all("ends once", "ends both", "size once web", "size both web", "finds once both",
                                     "rest once web", "tell web a.g"),
                         ["yes", "no", "3", "none", "1 g.f", "done", "done"])
        self.assert_same([desk.changes, desk["web"].knots()],
                         [5, [("a",), ("a", "f"), ("a", "g"), ("a", "f", "g")]])

    def test_answers(self):
        desk = a_desk()
        desk["three"] = Book([Saying([("f",)], [("g",)]), Saying([("g",)], [("h",)]), Saying([("f",)], [("h",)])])
        desk["twice"] = Book([UP, UP])
        desk["idle"] = Book([Saying([("f",)], [("f",)])])
        desk["empty"] = Book()
        desk["none"] = Web()
        rows = {
            "ends once": "yes", "ends both": "no", "ends empty": "yes", "comes once begin f.g": "yes",
            "comes once begin g": "no", "comes once begin -": "yes", "comes both begin f.g.f": "yes",
            "size once web": "3", "size both web": "none", "size once none": "0", "depth once web": "1",
            "depth both web": "none", "depth empty web": "0", "rounds once web": "1", "rounds empty web": "0",
            "ever once web a.f.g": "yes", "ever once web a.f.g.f": "no", "ever both web a.f.g.f.g.f.g": "yes",
            "ever both web b": "no", "finds both once": "yes", "finds once both": "1 g.f", "finds empty three": "0 g",
            "finds idle once": "0 f.g", "alike twice once": "yes", "alike once both": "no", "needless three": "2",
            "needless twice": "0 1", "needless once": "none", "needless empty": "none", "least three": "0,1",
            "least twice": "0 1", "least idle": "-", "least empty": "-", "least both": "0,1",
        }
        before = state(desk)
        for command, answer in rows.items():
            self.assert_same(desk.do(command), answer)
            self.assert_same(desk.do(command=command), answer)
        self.assertEqual(state(desk), before)
        self.assert_same(desk.do_all(*rows), list(rows.values()))
        self.assertEqual(state(desk), before)

    def test_changes(self):
        rows = {
            "round once web": after_round(ONCE, WEB), "rest once web": end_of(ONCE, WEB), "tell web a.g": WEB + ("a", "g"),
            "tell web b": Web(["b"], [("a", "f")]), "tell web a": WEB, "join web a b.g": WEB.with_pair(("a",), ("b", "g")),
            "join web a.f a": WEB.with_pair(("a", "f"), ("a",)), "join web x y": WEB.with_pair(("x",), ("y",)),
            "round both web": after_round(BOTH, WEB),
        }
        for command, web in rows.items():
            desk = a_desk()
            self.assert_same(desk.do(command), "done")
            self.assert_same([desk["web"], desk["once"], desk["both"], desk["begin"]], [web, ONCE, BOTH, BEGIN])
            self.assert_same([desk.changes, len(desk)], [5, 4])
            self.assert_same(desk.do("undo"), "done")
            self.assertEqual(state(desk), state(a_desk()))
        self.assert_same(WEB.knots(), [("a",), ("a", "f")])

    def test_at_rest_it_is_still_a_change(self):
        desk = a_desk()
        desk.do_all("rest once web", "rest once web", "round once web", "tell web a.f.g")
        self.assert_same([desk.changes, desk["web"]], [8, end_of(ONCE, WEB)])

    def test_drop_and_undo(self):
        for name in ("once", "both", "web", "begin"):
            desk = a_desk()
            self.assert_same(desk.do(f"drop {name}"), "done")
            self.assert_same([name in desk, len(desk), desk.changes], [False, 3, 5])
            self.assert_invalid(UnknownName, name, desk.do, f"drop {name}")
            self.assert_same(desk.do("undo"), "done")
            self.assertEqual(state(desk), state(a_desk()))
        desk = a_desk()
        for many in range(4):
            self.assert_same([desk.changes, desk.do("undo")], [4 - many, "done"])
        self.assert_same([desk.changes, len(desk)], [0, 0])
        self.assert_raises(NothingToUndo, {}, desk.do, "undo")

    def test_as_the_functions_do(self):
        chance = random.Random(93)
        books, webs = some_books(), some_webs()
        for _ in range(60):
            book, other = chance.choice([chance.choice(books), random_short_book(chance)]), chance.choice(books)
            web = chance.choice([chance.choice(webs), random_web(chance, "fgh")])
            front = random_front(chance)
            word = chance.choice(front.words() + [("f", "g"), ()])
            term = (chance.choice("abc"), *[chance.choice("fg") for _ in range(chance.randint(0, 4))])
            desk = Desk()
            desk["b"], desk["o"], desk["f"], desk["w"] = book, other, front, web

            def yes(answer):
                return "yes" if answer else "no"

            def number(answer):
                return "none" if answer is None else str(answer)
            missed = first_missed(book, other)
            told = text_of_term(term)
            self.assert_same(desk.do_all(
                "ends b", f"comes b f {text_of_word(word)}", "size b w", "depth b w", f"ever b w {told}", "finds b o",
                "alike b o", "needless b", "least b"), [
                yes(ends(book)), yes(comes(book, front, word)), number(web_size(book, web)), number(web_depth(book, web)),
                yes(ever_there(book, web, term)),
                "yes" if missed is None else f"{missed[0]} {'.'.join(missed[1])}", yes(alike(book, other)),
                " ".join(map(str, needless(book))) or "none",
                " ".join(",".join(map(str, part)) or "-" for part in least_sets(book))])
            for command, action in [("rounds b w", lambda: str(rounds_of(book, web))),
                                    ("round b w", lambda: after_round(book, web)), ("rest b w", lambda: end_of(book, web)),
                                    (f"tell w {told}", lambda: web + term),
                                    (f"join w a.f {told}", lambda: web.with_pair(("a", "f"), term))]:
                trial = desk.copy()
                try:
                    answer = action()
                except TooMany as error:
                    self.assert_raises(TooMany, vars(error), trial.do, command)
                    self.assertEqual(state(trial), state(desk))
                    continue
                if isinstance(answer, str):
                    self.assert_same(trial.do(command), answer)
                    self.assertEqual(state(trial), state(desk))
                else:
                    self.assert_same([trial.do(command), trial["w"], trial.changes], ["done", answer, 5])
                    self.assert_same(trial["b"], book)

    def test_what_is_no_command(self):
        desk = a_desk()
        values = [value for value in any_values()] + [
            "", " ", "ends", "ends ", "ends once once", " ends once", "ends  once", "ends once ", "Ends once", "end once",
            "ends Once", "ends once1", "ends f.g", "ends -", "ends once\n", "comes once begin", "comes once begin F",
            "comes once begin f.g.f.g", "comes once begin f..g", "comes once begin f g", "comes once begin ",
            "comes once begin --", "size once", "size once web web", "rounds web", "ever once web", "ever once web -",
            "ever once web A", "ever once web a.", "ever once web a b", "finds once", "alike once", "needless", "least",
            "least once both", "round once", "rest web", "tell web", "tell web -", "tell web a..f", "tell a.f web",
            "join web a", "join web a b c", "join web a -", "drop", "drop a.f", "drop a b", "drop ", "undo ", "undo once",
            " undo", "Undo", "put a", "once", "ends abcdefghi", "ends,once", "names", "copy", "do ends once", "ends\nonce",
            b"undo", ("undo",), ["undo"], {"undo": True},
        ]
        for value in values:
            self.assert_invalid(InvalidCommand, value, desk.do, value)
            self.assert_invalid(InvalidCommand, value, desk.do, command=value)
        self.assertEqual(state(desk), state(a_desk()))

    def test_names_that_are_missing(self):
        desk = a_desk()
        rows = {
            "ends a": "a", "comes a b f": "a", "comes once b f": "b", "comes a begin f": "a", "size a b": "a",
            "size once b": "b", "depth web b": "b", "rounds begin b": "b", "ever web x a.f": "x", "ever x web a.f": "x",
            "finds a a": "a", "finds once a": "a", "finds web a": "a", "alike a web": "a", "needless a": "a", "least a": "a",
            "round web a": "a", "rest a web": "a", "tell a web": "a", "join a once both": "a", "drop a": "a",
        }
        for command, name in rows.items():
            self.assert_invalid(UnknownName, name, desk.do, command)
        self.assertEqual(state(desk), state(a_desk()))

    def test_entries_of_the_wrong_class(self):
        desk = a_desk()
        rows = {
            "ends web": "web", "ends begin": "begin", "comes begin once f": "begin", "comes once both f": "both",
            "comes once web -": "web", "comes web both f": "web", "size web once": "web", "size once both": "both",
            "depth once begin": "begin", "rounds begin web": "begin", "ever web web a.f": "web", "ever once begin a.f": "begin",
            "finds web begin": "web", "finds once begin": "begin", "alike begin begin": "begin", "needless web": "web",
            "least begin": "begin", "round web web": "web", "rest once both": "both", "tell once a": "once",
            "tell begin a": "begin", "join both a b": "both",
        }
        for command, name in rows.items():
            self.assert_invalid(InvalidEntry, name, desk.do, command)
        self.assertEqual(state(desk), state(a_desk()))
        # A name that is missing comes ahead, and what is no command ahead of both.
        self.assert_invalid(UnknownName, "a", desk.do, "size web a")
        self.assert_invalid(InvalidCommand, "size web a b", desk.do, "size web a b")
        self.assert_invalid(InvalidCommand, "comes web a F", desk.do, "comes web a F")

    def test_errors_of_the_functions(self):
        desk = a_desk()
        for command in ("rounds both web", "rest both web"):
            self.assert_too_many("knots", 400, desk.do, command)
        desk["great"] = Web(["t" + chr(97 + one) + chr(97 + two) for one in range(20) for two in range(20)])
        for command in ("tell great a", "tell great taa.f", "join great x y", "join great taa.f tab.f.f"):
            self.assert_too_many("knots", 400, desk.do, command)
        full = desk["great"]
        self.assert_same([desk.do("join great taa tab"), len(desk["great"])], ["done", 399])
        self.assert_same([desk.do("tell great taa.f"), len(desk["great"])], ["done", 400])
        desk.do_all("undo", "undo")
        self.assertEqual(desk["great"], full)
        desk["full"] = Web([], [("t" + chr(97 + one) + chr(97 + two), "f") for one in range(20) for two in range(10)])
        self.assert_too_many("knots", 400, desk.do, "round once full")


class DoAllTest(unittest.TestCase, Checks):

    def test_each_is_a_change_of_its_own(self):
        desk = a_desk()
        self.assert_same(desk.do_all(), [])
        self.assert_same(desk.do_all("tell web a.g", "ends once", "tell web a.h", "drop once"), ["done", "yes", "done", "done"])
        self.assert_same(desk.changes, 7)
        desk.undo()
        self.assert_same([desk["once"], desk["web"]], [ONCE, Web([], [("a", "f"), ("a", "g"), ("a", "h")])])
        desk.undo()
        self.assert_same(desk["web"], Web([], [("a", "f"), ("a", "g")]))

    def test_undo_among_them(self):
        desk = a_desk()
        self.assert_same(desk.do_all("undo", "undo", "undo", "ends once"), ["done", "done", "done", "yes"])
        self.assert_same([desk.names(), desk.changes], [["once"], 1])

    def test_one_is_refused_at_each_place(self):
        good = ["tell web a.g", "ends once", "drop begin", "undo", "undo", "rest once web", "undo", "undo"]
        refused = [
            ("ends", InvalidCommand, {"value": "ends"}), (None, InvalidCommand, {"value": None}),
            (["undo"], InvalidCommand, {"value": ["undo"]}), ("ends gone", UnknownName, {"value": "gone"}),
            ("ends web", InvalidEntry, {"value": "web"}), ("rest both web", TooMany, {"what": "knots", "limit": 400}),
        ]
        for at in range(len(good) + 1):
            for command, kind, parts in refused:
                if at == 8 and kind in (InvalidEntry, TooMany):
                    continue
                desk = a_desk()
                told = good[:at] + [command] + good[at:]
                error = error_of(desk.do_all, *told)
                self.assertIs(type(error), CommandFailed)
                self.assert_same(vars(error), {"position": at})
                self.assertIs(type(error.__cause__), kind)
                self.assert_same(vars(error.__cause__), parts)
                self.assertEqual(state(desk), state(a_desk()))
                trial = error_of(desk.attempt, *told)
                self.assertIs(type(trial), CommandFailed)
                self.assert_same([vars(trial), vars(trial.__cause__)], [{"position": at}, parts])
                self.assertEqual(state(desk), state(a_desk()))

    def test_undo_that_is_refused(self):
        desk = a_desk()
        error = error_of(desk.do_all, "undo", "undo", "undo", "undo", "undo", "ends once")
        self.assert_same([type(error).__name__, error.position], ["CommandFailed", 4])
        self.assertIs(type(error.__cause__), NothingToUndo)
        self.assertEqual(state(desk), state(a_desk()))
        self.assert_raises(CommandFailed, {"position": 0}, Desk().do_all, "undo")

    def test_later_ones_see_what_changed(self):
        desk = a_desk()
        self.assert_same(desk.do_all("size once web", "tell web b.f", "size once web", "undo", "size once web"),
                         ["3", "done", "6", "done", "3"])
        self.assert_raises(CommandFailed, {"position": 1}, desk.do_all, "drop web", "size once web")
        self.assertIn("web", desk)


class CopyTest(unittest.TestCase, Checks):

    def test_copies_change_independently(self):
        desk = a_desk()
        other = desk.copy()
        self.assertIs(type(other), Desk)
        self.assertEqual(state(other), state(desk))
        other.do_all("tell web a.g", "drop once")
        self.assertEqual(state(desk), state(a_desk()))
        desk["new"] = BOTH
        self.assertNotIn("new", other)
        for _ in range(6):
            other.undo()
        self.assert_same([other.changes, len(other), desk.changes], [0, 0, 5])
        self.assert_raises(NothingToUndo, {}, other.undo)

    def test_attempt(self):
        for commands in (CHANGING[:4], ASKING, CHANGING, ["undo"] * 4, []):
            desk = a_desk()
            told = desk.attempt(*commands)
            self.assertEqual(state(desk), state(a_desk()))
            self.assert_same(desk.do_all(*commands), told)
        desk = a_desk()
        self.assert_raises(CommandFailed, {"position": 1}, desk.attempt, "drop web", "drop web")
        self.assert_raises(CommandFailed, {"position": 4}, desk.attempt, *["undo"] * 5)
        self.assertEqual(state(desk), state(a_desk()))

    def test_tried_by(self):
        desk = a_desk()
        seen = []

        def action(other):
            seen.append(other)
            self.assertEqual(state(other), state(desk))
            other.do_all("drop once", "undo", "undo", "tell web a.g")
            other["x"] = BOTH
            return other.names()
        self.assert_same(desk.tried_by(action), ["both", "once", "web", "x"])
        self.assert_same(desk.tried_by(action=lambda other: None), None)
        self.assertIsNot(seen[0], desk)
        self.assertEqual(state(desk), state(a_desk()))

        def failing(other):
            other.drop("web")
            raise KeyError("x")
        self.assertIsInstance(error_of(desk.tried_by, failing), KeyError)
        self.assert_raises(UnknownName, {"value": "x"}, desk.tried_by, lambda other: other.do("drop x"))
        self.assertEqual(state(desk), state(a_desk()))

    def test_entries_never_change(self):
        desk = a_desk()
        before = repr([ONCE, BOTH, WEB, BEGIN])
        desk.do_all(*CHANGING, *ASKING)
        self.assertEqual(repr([ONCE, BOTH, WEB, BEGIN]), before)

    def test_many_changes(self):
        desk = Desk()
        chance = random.Random(95)
        rows = [[]]
        entries = [ONCE, BOTH, WEB, BEGIN, Book([LOOP, INWARD])]
        for _ in range(200):
            if len(desk) and chance.random() < 0.3:
                desk.drop(chance.choice(desk.names()))
            else:
                desk[chance.choice("abcdef")] = chance.choice(entries)
            rows.append(names_and_entries(desk.copy()) if desk.changes % 10 == 0 else None)
        while desk.changes:
            told = rows.pop()
            if told is not None:
                self.assertEqual([(name, desk[name]) for name in desk.names()], told)
            desk.undo()
        self.assert_same(desk.names(), [])


if __name__ == "__main__":
    unittest.main()
