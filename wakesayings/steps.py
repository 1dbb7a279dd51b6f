"""What comes from fronts, and at the knots of webs, by a book, step by step.

What words come at is told here by a PLACE: a front by its KEY, the tuple of its words in order, so that it can be
looked up; a knot of a web by its number.
"""

from wakesayings.fronts import Front
from wakesayings.words import in_order

TOLD = "told"
UP = "up"
DOWN = "down"


def key_of(front):
    """The key of a front."""
    return tuple(front.words())


def keys_behind(words):
    """The list of the tuples (letter, key of what stands behind it) for the words of a front, by letters."""
    behind = {}
    for word in words:
        if word:
            behind.setdefault(word[0], []).append(word[1:])
    return [(letter, tuple(in_order(behind[letter]))) for letter in sorted(behind)]


def in_order_of_keys(rows):
    """The list of the tuples whose first parts are keys, in the order of their fronts."""
    return sorted(rows, key=lambda row: (len(row[0]), row[0]))


def walks_from(ways, knot):
    """The list of the tuples (word, knot) for the words that lead from a knot, with the knots to which they lead.

    Ways are a dict from knots to dicts from the letters that lead from there to the knots to which they lead.
    """
    last = [((), knot)]
    found = list(last)
    for _ in range(Front.LONGEST):
        last = [(word + (letter,), to) for word, end in last for letter, to in ways[end].items()]
        found = found + last
    return found


def steps_from(book, front):
    """All that comes from one front."""
    return Steps(book, [key_of(front)], {})


class Steps:
    """All that comes at some places, and from the fronts behind their letters, from those behind theirs, and so on.

    A step is a tuple (place, word, reason): by this reason, and by steps ahead of it, the word comes at that place.
    Reasons are those of lines, with a key in the place of a front; where a letter leads from knot to knot in a web,
    they are (UP, letter, knot that it leads to) and (DOWN, letter, knot that it leads from). What comes at one place
    puts words behind its letters, and what comes behind a letter comes at the place itself, so all of them are
    worked out together. The places to begin with are told by the keys of fronts, and by the ways of walks_from.
    """

    def __init__(self, book, fronts, ways):
        self._rows = [(saying.triggers(), saying.make_front().words()) for saying in book.sayings()]
        self._ways = ways
        self._steps = []
        # By places: the words that came so far, and the places that have this one behind a letter.
        self._held = {}
        self._above = {}
        self._waiting = {}
        for key in fronts:
            self._enter(key, key)
        for knot in ways:
            self._enter(knot, [word for word, end in walks_from(ways, knot)])
        self._run()

    def words(self, place):
        """The list of the words that come at a place."""
        return list(self._held[place])

    def reached(self, fronts):
        """The list of the tuples (key, words that come from it) of the fronts that are reached from some fronts.

        Those are told by keys. The tuples stand as each_reached has the fronts.
        """
        found = {key: True for key in fronts}
        turn = list(found)
        at = 0
        while at < len(turn):
            for _, key in keys_behind(self._held[turn[at]]):
                if key not in found:
                    found[key] = True
                    turn.append(key)
            at += 1
        return [(key, list(self._held[key])) for key in turn]

    def leading_to(self, pairs):
        """The list of the steps that lead to the tuples (place, word) of a list, each of which comes."""
        needed = {pair: True for pair in pairs}
        found = []
        for place, came, reason in reversed(list(self._steps)):
            if (place, came) in needed:
                found.append((place, came, reason))
                for pair in self._needed_for(place, came, reason):
                    needed[pair] = True
        return found[::-1]

    def _needed_for(self, place, came, reason):
        """The list of the tuples (place, word) on which a step rests."""
        if reason == TOLD:
            return []
        if isinstance(reason, int):
            return [(place, trigger) for trigger in self._rows[reason][0]]
        if len(reason) == 3:
            way, letter, knot = reason
            return [(knot, came[1:] if way == UP else (letter,) + came)]
        letter, behind = reason
        return [(behind, came[1:])] + [(place, (letter,) + word) for word in behind]

    def _enter(self, place, words):
        if place in self._held:
            return
        self._held[place] = {}
        self._above[place] = {}
        for word in words:
            self._put(place, word, TOLD)

    def _put(self, place, word, reason):
        if word in self._held[place]:
            return
        self._held[place][word] = True
        self._steps.append((place, word, reason))
        self._waiting[place] = True
        for looker in self._above[place]:
            self._waiting[looker] = True

    def _run(self):
        while self._waiting:
            places = list(self._waiting)
            self._waiting = {}
            for place in places:
                self._grow_by_sayings(place)
                self._grow_by_letters(place)

    def _grow_by_sayings(self, place):
        held = self._held[place]
        before = 0
        while before < len(held):
            before = len(held)
            for number, (triggers, makes) in enumerate(self._rows):
                if all([trigger in held for trigger in triggers]):
                    for word in makes:
                        self._put(place, word, number)

    def _grow_by_letters(self, place):
        ways = self._ways.get(place, {})
        for letter, to in ways.items():
            self._take_up(place, letter, to, (UP, letter, to))
        for letter, behind in keys_behind(self._held[place]):
            if letter in ways:
                for word in behind:
                    self._put(ways[letter], word, (DOWN, letter, place))
            else:
                self._enter(behind, behind)
                self._take_up(place, letter, behind, (letter, behind))

    def _take_up(self, place, letter, behind, reason):
        """What comes at the place behind a letter comes above it, too, now and later."""
        self._above[behind][place] = True
        for word in list(self._held[behind]):
            if len(word) < Front.LONGEST:
                self._put(place, (letter,) + word, reason)
