"""Webs, making and coming worked out in the slowest and plainest way, to compare with."""

import itertools


def order(term):
    return len(term), term


class NaiveWeb:
    """A web as groups of told terms that are the same knot."""

    def __init__(self, things=(), terms=(), pairs=()):
        told = [(thing,) for thing in things] + list(terms) + [term for pair in pairs for term in pair]
        self.group = {term[:many]: term[:many] for term in told for many in range(1, len(term) + 1)}
        self.letters = sorted({letter for term in self.group for letter in term[1:]})
        for one, another in pairs:
            self.join(one, another)
        while self.spread():
            pass

    def join(self, one, another):
        """Whether the groups of two told terms were not one yet."""
        kept, left = self.group[one], self.group[another]
        for term in self.group:
            if self.group[term] == left:
                self.group[term] = kept
        return kept != left

    def spread(self):
        """Whether a letter led from one group to two."""
        found = False
        for one, another in itertools.combinations(list(self.group), 2):
            if self.group[one] == self.group[another]:
                for letter in self.letters:
                    longer = one + (letter,), another + (letter,)
                    if longer[0] in self.group and longer[1] in self.group:
                        found = self.join(*longer) or found
        return found

    def knot(self, term):
        """What stands for the term's knot; None if the term is not there."""
        here = self.group.get(term[:1])
        for letter in term[1:]:
            ends = {self.group[told] for told in self.group if told[-1] == letter and len(told) > 1
                    and self.group[told[:-1]] == here}
            assert len(ends) <= 1
            if not ends:
                return None
            here = ends.pop()
        return here

    def terms(self, most):
        """All terms of at most so many elements, in order."""
        found = [[term for term in sorted(self.group) if len(term) == 1]]
        for _ in range(most - 1):
            longer = [term + (letter,) for term in found[-1] for letter in self.letters]
            found.append([term for term in longer if self.knot(term) is not None])
        return [term for row in found for term in row]

    def least(self):
        """A dict from what stands for the knots to their least terms."""
        found = {}
        for term in self.terms(max([len(term) for term in self.group], default=0)):
            found.setdefault(self.knot(term), term)
        assert len(found) == len(set(self.group.values()))
        return found


def coming_words(book, front_words):
    """A dict from the fronts that were looked at, as frozensets of words, to the words that come from them."""
    rows = [(saying.triggers(), [make[:many] for make in saying.makes() for many in range(len(make) + 1)])
            for saying in book.sayings()]
    first = frozenset(front_words)
    table = {first: set(first)}
    changed = True
    while changed:
        changed = False
        for front in list(table):
            came = set(table[front])
            for triggers, makes in rows:
                if all(trigger in came for trigger in triggers):
                    came |= set(makes)
            for letter in {word[0] for word in came if word}:
                behind = behind_of(came, letter)
                if behind not in table:
                    table[behind] = set(behind)
                    changed = True
                came |= {(letter, *word) for word in table[behind] if len(word) <= 2}
            if came != table[front]:
                table[front] = came
                changed = True
    return table


def behind_of(words, letter):
    return frozenset(word[1:] for word in words if word and word[0] == letter)


def reached_of(book, front_words):
    """The fronts that are reached, in the sequence of each_reached, as frozensets."""
    table = coming_words(book, front_words)
    found = [frozenset(front_words)]
    for front in found:
        for letter in sorted({word[0] for word in table[front] if word}):
            behind = behind_of(table[front], letter)
            if behind not in found:
                found.append(behind)
    return found


def is_right(book, ahead, line):
    """Whether a line is right by the pairs (words of a front, word) ahead."""
    front, word, reason = line
    here = frozenset(front.words())
    if reason == "told":
        return word in here
    if isinstance(reason, int):
        if reason >= len(book):
            return False
        saying = book[reason]
        begun = any(make[:len(word)] == word for make in saying.makes())
        return begun and all((here, trigger) in ahead for trigger in saying.triggers())
    letter, other = reason
    there = frozenset(other.words())
    if not word or word[0] != letter or any(len(held) == 3 for held in there):
        return False
    return (there, word[1:]) in ahead and all((here, (letter, *held)) in ahead for held in there)


def first_wrong(book, lines):
    """The position of the first line that is not right; None if all are."""
    ahead = set()
    for position, line in enumerate(lines):
        if not is_right(book, ahead, line):
            return position
        ahead.add((frozenset(line[0].words()), line[1]))
    return None


def is_closed(book, table):
    """Whether a list of tuples of two fronts is a table."""
    rows = [(set(front.words()), set(standing.words())) for front, standing in table]
    for front, standing in rows:
        if not front <= standing:
            return False
        for saying in book.sayings():
            if set(saying.triggers()) <= standing and not set(saying.makes()) <= standing:
                return False
        for letter in {word[0] for word in standing if word}:
            behind = behind_of(standing, letter)
            if not any(behind <= other and {(letter, *word) for word in held if len(word) <= 2} <= standing
                       for other, held in rows):
                return False
    return True


def is_shown(book, front, word, table):
    words = set(front.words())
    return is_closed(book, table) and any(
        words <= set(told.words()) and word not in standing.words() for told, standing in table)
