"""What comes from a front by a book, step by step.

A front is told here by its KEY, the tuple of its words in order, so that it can be looked up.
"""

from wakesayings.fronts import Front
from wakesayings.words import in_order

TOLD = "told"


def key_of(front):
    """The key of a front."""
    return tuple(front.words())


def keys_behind(words):
    """The list of the tuples (letter, key of what stands behind it) for the words of a front, by letters."""
    behind = {}
    for word in words:
        if word:
            behind.setdefault(word[0], []).append(word[1:])
    return [(letter, tuple(in_order(behind[letter]))) for letter in sorted(behind)]


def in_order_of_keys(rows):
    """The list of the tuples whose first parts are keys, in the order of their fronts."""
    return sorted(rows, key=lambda row: (len(row[0]), row[0]))


class Steps:
    """All that comes from a front, and from the fronts behind its letters, from those behind theirs, and so on.

    A step is a tuple (key, word, reason): by this reason, and by steps ahead of it, the word comes from that front.
    Reasons are those of lines, with a key in the place of a front. What comes from one front puts words behind its
    letters, and what comes behind a letter comes from the front itself, so all of them are worked out together.
    """

    def __init__(self, book, front):
        self._rows = [(saying.triggers(), saying.make_front().words()) for saying in book.sayings()]
        self._first = key_of(front)
        self._steps = []
        # By keys: the words that came so far, and the keys of the fronts that have this one behind a letter.
        self._held = {}
        self._above = {}
        self._waiting = {}
        self._enter(self._first)
        self._run()

    def words(self):
        """The list of the words that come from the front."""
        return list(self._held[self._first])

    def reached(self):
        """The list of the tuples (key, words that come from it) of the reached fronts, as each_reached has them."""
        found = {self._first: True}
        turn = [self._first]
        at = 0
        while at < len(turn):
            for _, key in keys_behind(self._held[turn[at]]):
                if key not in found:
                    found[key] = True
                    turn.append(key)
            at += 1
        return [(key, list(self._held[key])) for key in turn]

    def leading_to(self, word):
        """The list of the steps that lead to a word that comes from the front; the last one is that of this word."""
        needed = {(self._first, word): True}
        found = []
        for key, came, reason in reversed(list(self._steps)):
            if (key, came) in needed:
                found.append((key, came, reason))
                for pair in self._needed_for(key, came, reason):
                    needed[pair] = True
        return found[::-1]

    def _needed_for(self, key, came, reason):
        """The list of the tuples (key, word) on which a step rests."""
        if reason == TOLD:
            return []
        if isinstance(reason, int):
            return [(key, trigger) for trigger in self._rows[reason][0]]
        letter, behind = reason
        return [(behind, came[1:])] + [(key, (letter,) + word) for word in behind]

    def _enter(self, key):
        if key in self._held:
            return
        self._held[key] = {}
        self._above[key] = {}
        for word in key:
            self._put(key, word, TOLD)

    def _put(self, key, word, reason):
        if word in self._held[key]:
            return
        self._held[key][word] = True
        self._steps.append((key, word, reason))
        self._waiting[key] = True
        for looker in self._above[key]:
            self._waiting[looker] = True

    def _run(self):
        while self._waiting:
            keys_now = list(self._waiting)
            self._waiting = {}
            for key in keys_now:
                self._grow_by_sayings(key)
                self._grow_by_letters(key)

    def _grow_by_sayings(self, key):
        held = self._held[key]
        before = 0
        while before < len(held):
            before = len(held)
            for number, (triggers, makes) in enumerate(self._rows):
                if all([trigger in held for trigger in triggers]):
                    for word in makes:
                        self._put(key, word, number)

    def _grow_by_letters(self, key):
        for letter, behind in keys_behind(self._held[key]):
            self._enter(behind)
            self._above[behind][key] = True
            for word in list(self._held[behind]):
                if len(word) < Front.LONGEST:
                    self._put(key, (letter,) + word, (letter, behind))
