"""Webs: terms at knots, and leads from knot to knot."""

from wakesayings.checks import is_list
from wakesayings.errors import InvalidPairs, InvalidTerm, InvalidTerms, InvalidThings, InvalidWeb, UnknownTerm
from wakesayings.fronts import Front, need_front
from wakesayings.paths import grown, least_terms, merged, need_few_knots, numbered, walk
from wakesayings.words import is_letter, need_word


def is_term(value):
    """Whether any value is a term."""
    if not isinstance(value, tuple) or not value:
        return False
    # A thing is a name, as letters are.
    return all([is_letter(part) for part in value])


def is_pair(value):
    """Whether any value is a pair of terms."""
    return isinstance(value, tuple) and len(value) == 2 and is_term(value[0]) and is_term(value[1])


def need_term(value):
    """Raise InvalidTerm unless the value is a term."""
    if not is_term(value):
        raise InvalidTerm(value)


def need_web(value):
    """Raise InvalidWeb unless the value is a Web."""
    if not isinstance(value, Web):
        raise InvalidWeb(value)


def need_things(things):
    """Raise InvalidThings unless the value is a list of names."""
    if not is_list(things):
        raise InvalidThings(None)
    for position, thing in enumerate(things):
        if not is_letter(thing):
            raise InvalidThings(position)


def need_terms(terms):
    """Raise InvalidTerms unless the value is a list of terms."""
    if not is_list(terms):
        raise InvalidTerms(None)
    for position, term in enumerate(terms):
        if not is_term(term):
            raise InvalidTerms(position)


def need_pairs(pairs):
    """Raise InvalidPairs unless the value is a list of pairs of terms."""
    if not is_list(pairs):
        raise InvalidPairs(None)
    for position, pair in enumerate(pairs):
        if not is_pair(pair):
            raise InvalidPairs(position)


def told_leads(leads, terms, pairs):
    """The leads with these terms and those of the pairs, when the terms of each pair are the same knot."""
    more = grown(leads, [(0, term) for term in terms] + [(0, term) for pair in pairs for term in pair])
    return merged(more, [(walk(more, 0, one), walk(more, 0, another)) for one, another in pairs])


def leads_of_web(web):
    """The numbered leads of a web, as in wakesayings.paths; they are not to be changed."""
    return web._leads


def web_of_leads(leads):
    """The web with these leads, whatever numbers its knots have."""
    need_few_knots(leads, Web.MOST_KNOTS)
    web = Web()
    web._leads = numbered(leads)
    web._least = least_terms(web._leads)
    return web


def knot_of_term(web, term):
    """The number of the knot of a term of the web."""
    need_term(term)
    knot = walk(leads_of_web(web), 0, term)
    if knot is None:
        raise UnknownTerm(term)
    return knot


class Web:
    """At most 400 knots, things at knots and leads between them; it never changes."""

    MOST_KNOTS = 400

    def __init__(self, things=(), terms=(), pairs=()):
        need_things(things)
        need_terms(terms)
        need_pairs(pairs)
        leads = told_leads({}, [(thing,) for thing in things] + list(terms), pairs)
        need_few_knots(leads, Web.MOST_KNOTS)
        # Equal webs have equal numbered leads, as the least terms give the numbers.
        self._leads = numbered(leads)
        self._least = least_terms(self._leads)

    @classmethod
    def of(cls, front):
        """The web of a front: from its one thing x just the words of the front can be walked."""
        need_front(front)
        return cls(["x"], [("x",) + word for word in front.words()])

    def things(self):
        """The sorted list of its things."""
        return [name for knot, name in self._leads if knot == 0]

    def knots(self):
        """The list of the least terms of its knots, in order."""
        return self._least[1:]

    def __len__(self):
        return len(self._least[1:])

    def __contains__(self, value):
        return is_term(value) and walk(self._leads, 0, value) is not None

    def __getitem__(self, term):
        return self._least[knot_of_term(self, term)]

    def __iter__(self):
        raise TypeError("a web is not iterated over")

    def same(self, one, another):
        """Whether both terms are at the same knot."""
        return knot_of_term(self, one) == knot_of_term(self, another)

    def walked(self, term, word):
        """The least term of the knot to which the word leads from that of the term; None if it can't be walked."""
        knot = knot_of_term(self, term)
        need_word(word)
        end = walk(self._leads, knot, word)
        return None if end is None else self._least[end]

    def leads(self):
        """The list of the leads as tuples (least term, letter, least term), in order."""
        return [(self._least[knot], letter, self._least[to]) for (knot, letter), to in self._leads.items() if knot]

    def letters_at(self, term):
        """The sorted list of the letters that lead from the term's knot."""
        here = knot_of_term(self, term)
        return [letter for knot, letter in self._leads if knot == here]

    def front_at(self, term):
        """The front of the words of at most three letters that can be walked from the term's knot."""
        names_at = {knot: [] for knot in range(len(self._least))}
        for knot, name in self._leads:
            names_at[knot].append(name)
        ends = [((), knot_of_term(self, term))]
        found = []
        for _ in range(Front.LONGEST):
            ends = [(word + (letter,), self._leads[end, letter]) for word, end in ends for letter in names_at[end]]
            found = found + [word for word, end in ends]
        return Front(found)

    def pairs(self):
        """The list of the pairs of terms that tell what is the same knot, in order of their first terms."""
        told = [(self._least[knot] + (name,), self._least[to]) for (knot, name), to in self._leads.items()]
        return [(term, least) for term, least in told if term != least]

    @property
    def is_tree(self):
        """Whether no knot has two terms."""
        return not self.pairs()

    def __add__(self, term):
        need_term(term)
        return web_of_leads(told_leads(self._leads, [term], []))

    def with_pair(self, one, another):
        """The web with both terms, which need not be there, at the same knot."""
        need_term(one)
        need_term(another)
        return web_of_leads(told_leads(self._leads, [], [(one, another)]))

    def united(self, other):
        """The web of all that this one and another one tell."""
        need_web(other)
        more = len(self._least)
        others = {(knot + more if knot else 0, name): to + more for (knot, name), to in leads_of_web(other).items()}
        shared = [(to, others[key]) for key, to in self._leads.items() if key in others]
        both = {key: to for key, to in list(others.items()) + list(self._leads.items())}
        return web_of_leads(merged(both, shared))

    def __eq__(self, other):
        return isinstance(other, Web) and self._leads == other._leads

    def __repr__(self):
        terms = [term for term in self._least if len(term) > 1]
        return f"Web({self.things()!r}, {terms!r}, {self.pairs()!r})"
