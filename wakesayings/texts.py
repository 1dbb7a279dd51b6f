"""Texts of books, webs and terms."""

from wakesayings.books import Book
from wakesayings.errors import InvalidEntry, InvalidText
from wakesayings.sayings import Saying, first_wrong, is_row
from wakesayings.webs import Web, is_term, need_term
from wakesayings.words import in_order, text_of_word

ARROW = "->"


def text_of_term(term):
    """The text of a term."""
    need_term(term)
    return ".".join(term)


def term_of(text):
    """The term that has this text; None if none has."""
    term = tuple(text.split("."))
    return term if is_term(term) else None


def read_term(text):
    """The term that has this text."""
    if not isinstance(text, str) or term_of(text) is None:
        raise InvalidText(1)
    return term_of(text)


def line_of_saying(saying):
    """The line of a book's text for a saying, without the line feed."""
    triggers = [text_of_word(word) for word in saying.triggers()]
    makes = [text_of_word(word) for word in saying.makes()]
    return " ".join(["saying"] + triggers + [ARROW] + makes)


def lines_of_web(web):
    """The list of the lines of a web's text, without the line feeds."""
    things = [f"thing {thing}" for thing in web.things()]
    terms = [f"term {text_of_term(term)}" for term in web.knots() if len(term) > 1]
    return things + terms + [f"equal {text_of_term(term)} {text_of_term(least)}" for term, least in web.pairs()]


def text_of(entry):
    """The text of a Book or a Web."""
    if isinstance(entry, Book):
        return "".join([line_of_saying(saying) + "\n" for saying in entry.sayings()])
    if isinstance(entry, Web):
        return "".join([line + "\n" for line in lines_of_web(entry)])
    raise InvalidEntry(entry)


def lines_in(text):
    """The list of the lines of a text, without the line feeds; what stands behind the last line feed is the last."""
    if not isinstance(text, str):
        raise InvalidText(0)
    return text.split("\n")


def need_no_rest(lines):
    """Raise InvalidText if the last line has no line feed."""
    if lines[-1] != "":
        raise InvalidText(len(lines))


def is_told_row(words):
    """Whether the words can be the triggers, or the makes, of a saying as its line tells them."""
    return is_row(words) and first_wrong(words) is None and in_order(words) == words


def saying_of(line):
    """The saying that has this line; None if none has."""
    parts = line.split(" ")
    if parts[0] != "saying" or ARROW not in parts:
        return None
    at = parts.index(ARROW)
    # A word's text has no other signs than letters and points, so a second arrow is no word.
    triggers = [tuple(part.split(".")) for part in parts[1:at]]
    makes = [tuple(part.split(".")) for part in parts[at + 1:]]
    return Saying(triggers, makes) if is_told_row(triggers) and is_told_row(makes) else None


def read_book(text):
    """The book that has this text."""
    lines = lines_in(text)
    sayings = []
    for position, line in enumerate(lines[:-1]):
        saying = saying_of(line)
        if saying is None:
            raise InvalidText(position + 1)
        sayings.append(saying)
    need_no_rest(lines)
    return Book(sayings)


def read_web(text):
    """The web that has this text."""
    lines = lines_in(text)
    reader = WebReader()
    for position, line in enumerate(lines[:-1]):
        if not reader.takes(line):
            raise InvalidText(position + 1)
    need_no_rest(lines)
    return reader.made()


def is_ahead(one, another):
    """Whether a term stands ahead of another one, in order."""
    return (len(one), one) < (len(another), another)


class WebReader:
    """The lines of a web's text that were read so far.

    All lines that were read are the text of a web themselves, as what a line asks for stands in the lines ahead of
    it. The knots are told by the things that were not made equal to others, and by the terms. These are the least
    terms, as each lead that a pair tells goes to a knot whose term stands ahead of the lead's own.
    """

    def __init__(self):
        self._things = []
        self._terms = []
        self._pairs = []
        # The terms that tell the knots.
        self._least = {}

    def takes(self, line):
        """Whether the line can stand behind those that were read; it is read then."""
        parts = line.split(" ")
        told = [term_of(part) for part in parts[1:]]
        if None in told:
            return False
        if parts[0] == "thing" and len(told) == 1:
            return self._takes_thing(told[0])
        if parts[0] == "term" and len(told) == 1:
            return self._takes_term(told[0])
        return parts[0] == "equal" and len(told) == 2 and self._takes_pair(told[0], told[1])

    def made(self):
        """The web that was read."""
        return Web(self._things, self._terms, self._pairs)

    def _takes_thing(self, term):
        if len(term) > 1 or self._terms or self._pairs:
            return False
        if self._things and term[0] <= self._things[-1]:
            return False
        self._things.append(term[0])
        self._least[term] = True
        return True

    def _takes_term(self, term):
        if term[:-1] not in self._least or self._pairs:
            return False
        if self._terms and not is_ahead(self._terms[-1], term):
            return False
        self._terms.append(term)
        self._least[term] = True
        return True

    def _takes_pair(self, term, least):
        if self._pairs and not is_ahead(self._pairs[-1][0], term):
            return False
        if least not in self._least or not is_ahead(least, term):
            return False
        if not (self._is_other_thing(term) if len(term) == 1 else self._is_other_lead(term)):
            return False
        self._pairs.append((term, least))
        self._least.pop(term, None)
        return True

    def _is_other_thing(self, term):
        """Whether the term is a thing that may be made equal to another one: no least term begins with it."""
        return term in self._least and not any([told[0] == term[0] for told in self._terms])

    def _is_other_lead(self, term):
        """Whether the term tells a lead from a knot that no line told."""
        return term[:-1] in self._least and term not in self._least
