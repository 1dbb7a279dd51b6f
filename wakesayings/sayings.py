"""Sayings: triggers that are met, and makes that are put in then."""

from wakesayings.checks import is_list
from wakesayings.errors import InvalidMakes, InvalidSaying, InvalidTriggers
from wakesayings.fronts import Front
from wakesayings.words import in_order, is_word


def need_saying(value):
    """Raise InvalidSaying unless the value is a Saying."""
    if not isinstance(value, Saying):
        raise InvalidSaying(value)


def letters_of(rows):
    """The sorted list of the letters that stand in the rows, which are words or lists of letters."""
    return sorted(set([letter for row in rows for letter in row]))


def is_row(value):
    """Whether any value is a list of as many words as a saying has triggers, whatever its elements are."""
    return is_list(value) and 1 <= len(value) <= Saying.MOST


def first_wrong(words):
    """The position of the first one that is no word with letters, or stood there before; None if all are right."""
    for position, word in enumerate(words):
        if not is_word(word) or not word or word in words[:position]:
            return position
    return None


class Saying:
    """For all x: where the triggers can be walked from x, the makes are put in. It never changes."""

    MOST = 3

    def __init__(self, triggers, makes):
        if not is_row(triggers):
            raise InvalidTriggers(None)
        if first_wrong(triggers) is not None:
            raise InvalidTriggers(first_wrong(triggers))
        if not is_row(makes):
            raise InvalidMakes(None)
        if first_wrong(makes) is not None:
            raise InvalidMakes(first_wrong(makes))
        # Their sequence has no meaning, so equal sayings hold equal lists.
        self._triggers = in_order(triggers)
        self._makes = in_order(makes)

    def triggers(self):
        """The list of its triggers, in order."""
        return list(self._triggers)

    def makes(self):
        """The list of its makes, in order."""
        return list(self._makes)

    def letters(self):
        """The sorted list of all its letters."""
        return letters_of(self._triggers + self._makes)

    def make_letters(self):
        """The sorted list of the letters of its makes."""
        return letters_of(self._makes)

    def trigger_front(self):
        """The front of its triggers."""
        return Front(self._triggers)

    def make_front(self):
        """The front of its makes."""
        return Front(self._makes)

    def with_triggers(self, triggers):
        """The saying with these triggers in the place of its own."""
        return Saying(triggers, self._makes)

    def with_makes(self, makes):
        """The saying with these makes in the place of its own."""
        return Saying(self._triggers, makes)

    def __eq__(self, other):
        return isinstance(other, Saying) and self._triggers == other._triggers and self._makes == other._makes

    def __repr__(self):
        return f"Saying({self._triggers!r}, {self._makes!r})"
