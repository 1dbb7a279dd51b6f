"""Leads between knots that have numbers: dicts with keys (knot, name), and values that are knots.

The number 0 is no knot: from it each thing leads to its knot, so a term is walked from 0 as a word is from a knot.
Nothing here changes what it is passed.
"""

from wakesayings.errors import TooMany


def walk(leads, knot, names):
    """The knot to which the names lead one after another, None if they do not."""
    here = knot
    for name in names:
        here = leads.get((here, name))
    return here


def count_knots(leads):
    """The number of knots to which something leads."""
    return len(set(list(leads.values())))


def need_few_knots(leads, limit):
    """Raise TooMany if there are more knots than the limit."""
    if count_knots(leads) > limit:
        raise TooMany("knots", limit)


def grown(leads, told):
    """The leads with those that lack for walking the names of each tuple (knot, names) of a list.

    The knots have the numbers from 1 on, without a gap, and so have the new ones behind them.
    """
    found = {key: leads[key] for key in leads}
    last = count_knots(leads)
    for knot, names in told:
        here = knot
        for name in names:
            if (here, name) not in found:
                last += 1
                found[here, name] = last
            here = found[here, name]
    return found


def top_of(above, knot):
    """The knot that stands for all those that are the same as this one."""
    here = knot
    while above[here] != here:
        here = above[here]
    return here


def merged(leads, pairs):
    """The leads when the knots of each pair are the same, and so are those to which one name leads from them."""
    ways = {knot: {} for knot in [0] + list(leads.values()) + [knot for pair in pairs for knot in pair]}
    for (knot, name), to in leads.items():
        ways[knot][name] = to
    above = {knot: knot for knot in ways}
    # The lighter one goes below the heavier one, so that no way up is long and no lead is moved often.
    weight = {knot: 1 + len(ways[knot]) for knot in ways}
    waiting = list(pairs)
    while waiting:
        one, another = waiting.pop()
        low, high = top_of(above, one), top_of(above, another)
        if low == high:
            continue
        if weight[low] > weight[high]:
            low, high = high, low
        above[low] = high
        weight[high] = weight[high] + weight[low]
        for name, to in list(ways[low].items()):
            if name in ways[high]:
                waiting.append((ways[high][name], to))
            else:
                ways[high][name] = to
    tops = [knot for knot in ways if above[knot] == knot]
    return {(knot, name): top_of(above, ways[knot][name]) for knot in tops for name in ways[knot]}


def numbered(leads):
    """The leads with the knots numbered from 1 on in the order of their least terms, in this order themselves."""
    names_at = {knot: [] for knot in [0] + list(leads.values())}
    for knot, name in leads:
        names_at[knot].append(name)
    numbers = {0: 0}
    turn = [0]
    found = {}
    at = 0
    # Shorter terms come first, and those of one length by what stands ahead of the last name.
    while at < len(turn):
        for name in sorted(names_at[turn[at]]):
            to = leads[turn[at], name]
            if to not in numbers:
                numbers[to] = len(turn)
                turn.append(to)
            found[at, name] = numbers[to]
        at += 1
    return found


def least_terms(leads):
    """The list of the least terms by the numbers of knots, for leads that are numbered; that of 0 is empty."""
    found = [()]
    for (knot, name), to in leads.items():
        if to == len(found):
            found.append(found[knot] + (name,))
    return found
