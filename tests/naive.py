"""Webs, making and coming worked out in the slowest and plainest way, to compare with."""

import itertools


def order(term):
    return len(term), term


class NaiveWeb:
    """A web as groups of told terms that are the same knot."""

    def __init__(self, things=(), terms=(), pairs=()):
        told = [(thing,) for thing in things] + list(terms) + [term for pair in pairs for term in pair]
        self.group = {term[:many]: term[:many] for term in told for many in range(1, len(term) + 1)}
        self.letters = sorted({letter for term in self.group for letter in term[1:]})
        for one, another in pairs:
            self.join(one, another)
        while self.spread():
            pass

    def join(self, one, another):
        """Whether the groups of two told terms were not one yet."""
        kept, left = self.group[one], self.group[another]
        for term in self.group:
            if self.group[term] == left:
                self.group[term] = kept
        return kept != left

    def spread(self):
        """Whether a letter led from one group to two."""
        found = False
        for one, another in itertools.combinations(list(self.group), 2):
            if self.group[one] == self.group[another]:
                for letter in self.letters:
                    longer = one + (letter,), another + (letter,)
                    if longer[0] in self.group and longer[1] in self.group:
                        found = self.join(*longer) or found
        return found

    def knot(self, term):
        """What stands for the term's knot; None if the term is not there."""
        here = self.group.get(term[:1])
        for letter in term[1:]:
            ends = {self.group[told] for told in self.group if told[-1] == letter and len(told) > 1
                    and self.group[told[:-1]] == here}
            assert len(ends) <= 1
            if not ends:
                return None
            here = ends.pop()
        return here

    def terms(self, most):
        """All terms of at most so many elements, in order."""
        found = [[term for term in sorted(self.group) if len(term) == 1]]
        for _ in range(most - 1):
            longer = [term + (letter,) for term in found[-1] for letter in self.letters]
            found.append([term for term in longer if self.knot(term) is not None])
        return [term for row in found for term in row]

    def least(self):
        """A dict from what stands for the knots to their least terms."""
        found = {}
        for term in self.terms(max([len(term) for term in self.group], default=0)):
            found.setdefault(self.knot(term), term)
        assert len(found) == len(set(self.group.values()))
        return found


def coming_words(book, front_words):
    """A dict from the fronts that were looked at, as frozensets of words, to the words that come from them."""
    rows = [(saying.triggers(), [make[:many] for make in saying.makes() for many in range(len(make) + 1)])
            for saying in book.sayings()]
    first = frozenset(front_words)
    table = {first: set(first)}
    changed = True
    while changed:
        changed = False
        for front in list(table):
            came = set(table[front])
            for triggers, makes in rows:
                if all(trigger in came for trigger in triggers):
                    came |= set(makes)
            for letter in {word[0] for word in came if word}:
                behind = behind_of(came, letter)
                if behind not in table:
                    table[behind] = set(behind)
                    changed = True
                came |= {(letter, *word) for word in table[behind] if len(word) <= 2}
            if came != table[front]:
                table[front] = came
                changed = True
    return table


def behind_of(words, letter):
    return frozenset(word[1:] for word in words if word and word[0] == letter)


def reached_of(book, front_words):
    """The fronts that are reached, in the sequence of each_reached, as frozensets."""
    table = coming_words(book, front_words)
    found = [frozenset(front_words)]
    for front in found:
        for letter in sorted({word[0] for word in table[front] if word}):
            behind = behind_of(table[front], letter)
            if behind not in found:
                found.append(behind)
    return found


def is_right(book, ahead, line):
    """Whether a line is right by the pairs (words of a front, word) ahead."""
    front, word, reason = line
    here = frozenset(front.words())
    if reason == "told":
        return word in here
    if isinstance(reason, int):
        if reason >= len(book):
            return False
        saying = book[reason]
        begun = any(make[:len(word)] == word for make in saying.makes())
        return begun and all((here, trigger) in ahead for trigger in saying.triggers())
    letter, other = reason
    there = frozenset(other.words())
    if not word or word[0] != letter or any(len(held) == 3 for held in there):
        return False
    return (there, word[1:]) in ahead and all((here, (letter, *held)) in ahead for held in there)


def first_wrong(book, lines):
    """The position of the first line that is not right; None if all are."""
    ahead = set()
    for position, line in enumerate(lines):
        if not is_right(book, ahead, line):
            return position
        ahead.add((frozenset(line[0].words()), line[1]))
    return None


def is_closed(book, table):
    """Whether a list of tuples of two fronts is a table."""
    rows = [(set(front.words()), set(standing.words())) for front, standing in table]
    for front, standing in rows:
        if not front <= standing:
            return False
        for saying in book.sayings():
            if set(saying.triggers()) <= standing and not set(saying.makes()) <= standing:
                return False
        for letter in {word[0] for word in standing if word}:
            behind = behind_of(standing, letter)
            if not any(behind <= other and {(letter, *word) for word in held if len(word) <= 2} <= standing
                       for other, held in rows):
                return False
    return True


def is_shown(book, front, word, table):
    words = set(front.words())
    return is_closed(book, table) and any(
        words <= set(told.words()) and word not in standing.words() for told, standing in table)


def lifted(words, letter):
    return {(letter, *word) for word in words if len(word) <= 2}


def size_and_depth(book, front_words):
    """The size and the depth of a front by the fact of [64]; None if the book goes on from it."""
    table = coming_words(book, front_words)
    known = {}

    def measure(front, ahead):
        if front in ahead:
            return None
        if front not in known:
            found = [measure(behind_of(table[front], letter), ahead | {front})
                     for letter in {word[0] for word in table[front] if word}]
            if None in found:
                return None
            known[front] = (1 + sum(size for size, _ in found), max([1 + depth for _, depth in found], default=0))
        return known[front]
    return measure(frozenset(front_words), frozenset())


def is_ranked_one(book, table):
    """Whether a list of tuples (front, standing front, rank) is a ranked table."""
    if not is_closed(book, [row[:2] for row in table]):
        return False
    rows = [(set(front.words()), set(standing.words()), rank) for front, standing, rank in table]
    return all(any(behind_of(standing, letter) <= other and lifted(held, letter) <= standing and lower < rank
                   for other, held, lower in rows)
               for _, standing, rank in rows for letter in {word[0] for word in standing if word})


def is_lasso_one(book, lasso):
    """Whether four values of the right kinds are a lasso."""
    fronts, letters, position, lines = lasso
    rows = [set(front.words()) for front in fronts]
    if len(rows) < 2 or len(letters) != len(rows) - 1 or not 0 <= position < len(rows) - 1:
        return False
    if any(len(word) == 3 for row in rows[1:] for word in row) or not rows[position] <= rows[-1]:
        return False
    if first_wrong(book, lines) is not None:
        return False
    told = {(frozenset(front.words()), word) for front, word, _ in lines}
    return all((frozenset(rows[at]), (letter, *word)) in told
               for at, letter in enumerate(letters) for word in rows[at + 1])


def standing_words(book, web):
    """A dict from the least terms of a web to the sets of words that can be walked from there at some time."""
    ways = {term: {} for term in web.knots()}
    for term, letter, to in web.leads():
        ways[term][letter] = to
    held = {term: {()} for term in ways}
    came = {}
    before = None
    while before != held:
        before = {term: set(held[term]) for term in held}
        for term in held:
            for saying in book.sayings():
                if set(saying.triggers()) <= held[term]:
                    held[term] |= {make[:many] for make in saying.makes() for many in range(4)}
            for letter, to in ways[term].items():
                held[term] |= {(letter,)} | lifted(held[to], letter)
                held[to] |= behind_of(held[term], letter)
            for letter in {word[0] for word in held[term] if word} - set(ways[term]):
                behind = behind_of(held[term], letter)
                if behind not in came:
                    came[behind] = coming_words(book, behind)[behind]
                held[term] |= lifted(came[behind], letter)
    return held


def new_ones(book, web):
    """The list of the tuples (least term, letter, what stands behind it) of the new leads, in order."""
    there = {(term, letter) for term, letter, _ in web.leads()}
    held = standing_words(book, web)
    return [(term, letter, behind_of(held[term], letter)) for term in sorted(held, key=order)
            for letter in sorted({word[0] for word in held[term] if word}) if (term, letter) not in there]


def is_rest_one(book, web, standings, table):
    """Whether a dict from least terms to fronts and a list of tuples (front, standing front, rank) are a rest paper."""
    if sorted(standings, key=order) != web.knots() or not is_ranked_one(book, table):
        return False
    held = {term: set(standings[term].words()) for term in standings}
    ways = {(term, letter): to for term, letter, to in web.leads()}
    for term in held:
        if any(set(saying.triggers()) <= held[term] and not set(saying.makes()) <= held[term]
               for saying in book.sayings()):
            return False
        if any(at == term and (letter,) not in held[term] for at, letter in ways):
            return False
        for letter in {word[0] for word in held[term] if word}:
            rows = [(front.words(), standing.words()) for front, standing, _ in table]
            if (term, letter) in ways:
                rows = [(held[ways[term, letter]], held[ways[term, letter]])]
            if not any(behind_of(held[term], letter) <= set(front) and lifted(standing, letter) <= held[term]
                       for front, standing in rows):
                return False
    return True


def is_right_there(book, web, ahead, line):
    """Whether a web line is right by the pairs (words of a front or least term, word) ahead."""
    place, word, reason = line
    if not isinstance(place, tuple):
        return is_right(book, ahead, line)
    ways = {(term, letter): to for term, letter, to in web.leads()}
    if reason == "told":
        return place + word in web
    if isinstance(reason, int):
        if reason >= len(book):
            return False
        saying = book[reason]
        begun = any(make[:len(word)] == word for make in saying.makes())
        return begun and all((place, trigger) in ahead for trigger in saying.triggers())
    if reason[0] == "up" and isinstance(reason[1], str):
        to = ways.get((place, reason[1]))
        return word[:1] == (reason[1],) and to is not None and (to, word[1:]) in ahead
    if len(reason) == 3:
        return ways.get((reason[2], reason[1])) == place and (reason[2], (reason[1], *word)) in ahead
    letter, other = reason
    there = frozenset(other.words())
    if (place, letter) in ways or word[:1] != (letter,) or any(len(held) == 3 for held in there):
        return False
    return (there, word[1:]) in ahead and all((place, (letter, *held)) in ahead for held in there)


def is_run_one(book, web, paper):
    """Whether four values of the right kinds are a run paper."""
    term, letter, lines, lasso = paper
    if term not in web.knots() or term + (letter,) in web or not is_lasso_one(book, lasso):
        return False
    ahead = set()
    for line in lines:
        if isinstance(line[0], tuple) and line[0] not in web.knots() or not is_right_there(book, web, ahead, line):
            return False
        ahead.add((line[0] if isinstance(line[0], tuple) else frozenset(line[0].words()), line[1]))
    first = lasso[0][0].words()
    return not any(len(word) == 3 for word in first) and all((term, (letter, *word)) in ahead for word in first)


def missed_of(book, other):
    """The first missed make as a tuple (number, make), or None."""
    for number, saying in enumerate(other.sayings()):
        words = {trigger[:many] for trigger in saying.triggers() for many in range(4)}
        came = coming_words(book, words)[frozenset(words)]
        for make in sorted(saying.makes(), key=order):
            if make not in came:
                return number, make
    return None


def least_of(book):
    """The list of least sets."""
    parts = [part for many in range(len(book) + 1) for part in itertools.combinations(range(len(book)), many)]
    finding = [part for part in parts if missed_of(book.kept(part), book) is None]
    return [list(part) for part in finding if not any(set(other) < set(part) for other in finding)]
