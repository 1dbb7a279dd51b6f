"""Single webs: what ever comes in them, and how great their ends are, without making these; the papers for both."""

from wakesayings.books import need_book
from wakesayings.checks import is_count, is_list
from wakesayings.ending import is_lasso, is_ranked_table, lasso_from, measures_of, ranked_rows
from wakesayings.fronts import Front
from wakesayings.lines import is_line, is_right, is_right_by_letter, is_right_by_saying, lines_of
from wakesayings.steps import DOWN, TOLD, UP, Steps, key_of, keys_behind, walks_from
from wakesayings.tables import has_all_makes, is_met_behind
from wakesayings.webs import knot_of_term, leads_of_web, need_term, need_web
from wakesayings.words import is_letter, is_word


def ways_of(web):
    """The dict from the knots of a web to dicts from the letters that lead from there to where they lead."""
    ways = {knot: {} for knot in range(1, len(web) + 1)}
    for (knot, name), to in leads_of_web(web).items():
        if knot:
            ways[knot][name] = to
    return ways


def steps_in(book, web):
    """All that comes at the knots of a web, but for the words with letters that the book does not have."""
    letters = book.letters()
    ways = ways_of(web)
    return Steps(book, [], {knot: {name: ways[knot][name] for name in ways[knot] if name in letters} for knot in ways})


def standing_front(steps, ways, knot):
    """The front that stands at a knot; ways are those of the web."""
    # A letter that the book does not have leads only where it leads in the web.
    words = {word + more: True for word, end in walks_from(ways, knot) for more in steps.words(end)
             if len(word) + len(more) <= Front.LONGEST}
    return Front(list(words))


def new_behind(web, steps):
    """The list of the tuples (knot, letter, key of what stands behind it) of all new leads."""
    leads = leads_of_web(web)
    knots = range(1, len(web) + 1)
    return [(knot, letter, behind) for knot in knots for letter, behind in keys_behind(steps.words(knot))
            if (knot, letter) not in leads]


def measures_in(book, web):
    """The list of the tuples (size, depth) of what stands behind all new leads; None if the book goes on."""
    steps = steps_in(book, web)
    found = [behind for knot, letter, behind in new_behind(web, steps)]
    measures = measures_of(steps.reached(found))
    if not all([behind in measures for behind in found]):
        return None
    return [measures[behind] for behind in found]


def standing_at(book, web, term):
    """The front of the words that can be walked from the term's knot at some time."""
    need_book(book)
    need_web(web)
    return standing_front(steps_in(book, web), ways_of(web), knot_of_term(web, term))


def new_leads(book, web):
    """The list of the tuples (least term, letter) of all new leads, in order of the terms, then by letters."""
    need_book(book)
    need_web(web)
    terms = web.knots()
    return [(terms[knot - 1], letter) for knot, letter, behind in new_behind(web, steps_in(book, web))]


def goes_on(book, web):
    """Whether the book goes on from the web."""
    need_book(book)
    need_web(web)
    return measures_in(book, web) is None


def web_size(book, web):
    """The number of knots of the web's end; None if the book goes on."""
    need_book(book)
    need_web(web)
    found = measures_in(book, web)
    return None if found is None else len(web) + sum([size for size, depth in found])


def web_depth(book, web):
    """The greatest number of new leads on the way to a knot of the web's end; None if the book goes on."""
    need_book(book)
    need_web(web)
    found = measures_in(book, web)
    return None if found is None else max([0] + [1 + depth for size, depth in found])


def ever_there(book, web, term):
    """Whether the term is there at some time."""
    need_book(book)
    need_web(web)
    need_term(term)
    leads = leads_of_web(web)
    here, at = 0, 0
    while at < len(term) and (here, term[at]) in leads:
        here = leads[here, term[at]]
        at += 1
    # No making puts in a thing.
    return here != 0 and can_come(steps_in(book, web), here, term[at:])


def can_come(steps, knot, names):
    """Whether the names can be walked from a knot at some time; the first of them leads nowhere in the web."""
    place = knot
    for name in names:
        behind = dict(keys_behind(steps.words(place)))
        if name not in behind:
            return False
        place = behind[name]
    return True


def rest_paper(book, web):
    """A rest paper for the web; None if the book goes on from it."""
    need_book(book)
    need_web(web)
    if measures_in(book, web) is None:
        return None
    steps, ways, terms = steps_in(book, web), ways_of(web), web.knots()
    standings = {terms[knot - 1]: standing_front(steps, ways, knot) for knot in ways}
    return (standings, ranked_rows(steps.reached([behind for knot, letter, behind in new_behind(web, steps)])))


def run_paper(book, web):
    """A run paper for the web; None if the book does not go on from it."""
    need_book(book)
    need_web(web)
    steps, terms = steps_in(book, web), web.knots()
    for knot, letter, behind in new_behind(web, steps):
        if behind not in measures_of(steps.reached([behind])):
            lines = lines_of(steps.leading_to([(knot, (letter,) + word) for word in behind]), terms)
            return (terms[knot - 1], letter, lines, lasso_from(steps, behind))
    return None


def stands_at_all(web, value):
    """Whether any value is a dict from just the least terms of all knots to fronts."""
    if not isinstance(value, dict) or len(value) != len(web):
        return False
    return all([term in value and isinstance(value[term], Front) for term in web.knots()])


def is_closed_at(book, standing, beside, table):
    """Whether what stands at a knot has all that it must have.

    Beside is the dict from the letters that lead from the knot in the web to what stands where they lead.
    """
    if not has_all_makes(book, standing) or not all([(letter,) in standing for letter in beside]):
        return False
    for letter in standing.letters():
        rows = [(beside[letter], beside[letter])] if letter in beside else table
        if not is_met_behind(rows, standing, letter):
            return False
    return True


def is_rest_paper(book, web, value):
    """Whether any value is a rest paper for the web."""
    need_book(book)
    need_web(web)
    if not isinstance(value, tuple) or len(value) != 2:
        return False
    standings, ranked = value
    if not stands_at_all(web, standings) or not is_ranked_table(book, ranked):
        return False
    table = [(front, standing) for front, standing, rank in ranked]
    beside = {term: {} for term in web.knots()}
    for term, letter, to in web.leads():
        beside[term][letter] = standings[to]
    return all([is_closed_at(book, standings[term], beside[term], table) for term in web.knots()])


def is_least(web, value):
    """Whether any value is the least term of a knot of the web."""
    return value in web and web[value] == value


def is_right_by_lead(web, ahead, term, word, reason):
    """Whether a word comes at the knot of a least term as another one comes where a lead of the web leads to or from.

    The reason is a tuple that is not (letter, front).
    """
    # The words that tell the way are letters themselves.
    if not is_word(reason[:2]):
        return False
    letter = reason[1:2]
    if len(reason) == 2 and reason[0] == UP:
        return word[:1] == letter and (web.walked(term, letter), word[1:]) in ahead
    if len(reason) == 3 and reason[0] == DOWN and is_least(web, reason[2]):
        return web.walked(reason[2], letter) == term and (reason[2], letter + word) in ahead
    return False


def is_right_in(book, web, ahead, line):
    """Whether a tuple (least term, word, reason) is right by the web lines ahead."""
    term, word, reason = line
    if isinstance(reason, tuple):
        if len(reason) == 2 and isinstance(reason[1], Front):
            leads = not is_letter(reason[0]) or web.walked(term, reason[:1]) is not None
            return not leads and is_right_by_letter(ahead, term, word, reason)
        return is_right_by_lead(web, ahead, term, word, reason)
    if isinstance(reason, str):
        return reason == TOLD and web.walked(term, word) is not None
    return is_count(reason) and is_right_by_saying(book, ahead, term, word, reason)


def right_lines(book, web, value):
    """The dict with keys (key of a front or least term, word) for any value that is web lines; None for any other."""
    if not is_list(value):
        return None
    ahead = {}
    for line in value:
        if is_line(line):
            right, place = is_right(book, ahead, line), key_of(line[0])
        elif not isinstance(line, tuple) or len(line) != 3 or not is_least(web, line[0]) or not is_word(line[1]):
            return None
        else:
            right, place = is_right_in(book, web, ahead, line), line[0]
        if not right:
            return None
        ahead[place, line[1]] = True
    return ahead


def is_run_paper(book, web, value):
    """Whether any value is a run paper for the web."""
    need_book(book)
    need_web(web)
    if not isinstance(value, tuple) or len(value) != 4:
        return False
    term, letter, lines, lasso = value
    if not is_least(web, term) or not is_letter(letter) or web.walked(term, (letter,)) is not None:
        return False
    if not is_lasso(book, lasso) or lasso[0][0].longest == Front.LONGEST:
        return False
    ahead = right_lines(book, web, lines)
    return ahead is not None and all([(term, (letter,) + word) in ahead for word in lasso[0][0].words()])
