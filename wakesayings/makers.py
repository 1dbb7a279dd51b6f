"""Makers: a book and a web that change, step by step, and back."""

from wakesayings.books import need_book
from wakesayings.errors import InvalidMaker, NothingToUndo
from wakesayings.making import after_instance, after_round, is_new, new_instances
from wakesayings.webs import need_web


def need_maker(value):
    """Raise InvalidMaker unless the value is a Maker."""
    if not isinstance(value, Maker):
        raise InvalidMaker(value)


class Maker:
    """A book at work on a web."""

    def __init__(self, book, web):
        need_book(book)
        need_web(web)
        # All that ever was, as tuples (book, web, how many were made), what is now at last. Each change gives a
        # new list, so that a copy or a Trial may keep the old one.
        self._states = [(book, web, 0)]

    @property
    def book(self):
        """The book as it is now."""
        return self._states[-1][0]

    @book.setter
    def book(self, value):
        self.set_book(value)

    @property
    def web(self):
        """The web as it is now."""
        return self._states[-1][1]

    @property
    def many(self):
        """How many new instances were made, without those that were taken back."""
        return self._states[-1][2]

    @property
    def at_rest(self):
        """Whether no instance is new."""
        return not self.fresh()

    def make(self, number, term):
        """Make an instance; returns whether it was new."""
        web = after_instance(self.book, self.web, number, term)
        was_new = is_new(self.book, self.web, number, term)
        self._states = self._states + [(self.book, web, self.many + (1 if was_new else 0))]
        return was_new

    def do_round(self):
        """Make one round; returns how many instances were new."""
        found = self.fresh()
        self._states = self._states + [(self.book, after_round(self.book, self.web), self.many + len(found))]
        return len(found)

    def finish(self):
        """Make rounds to rest; returns how many."""
        book, web, many = self._states[-1]
        rounds = 0
        found = new_instances(book, web)
        while found:
            web = after_round(book, web)
            many = many + len(found)
            rounds += 1
            found = new_instances(book, web)
        self._states = self._states + [(book, web, many)]
        return rounds

    def tell(self, term):
        """Put in a term, which need not be there."""
        self._states = self._states + [(self.book, self.web + term, self.many)]

    def join(self, one, another):
        """Put in both terms, which need not be there, and make them the same knot."""
        self._states = self._states + [(self.book, self.web.with_pair(one, another), self.many)]

    def set_book(self, book):
        """Take another book."""
        need_book(book)
        self._states = self._states + [(book, self.web, self.many)]

    def undo(self):
        """Take back the last change."""
        if len(self._states) == 1:
            raise NothingToUndo()
        self._states = self._states[:-1]

    def fresh(self):
        """The sorted list of all instances that are new now."""
        return new_instances(self.book, self.web)

    def copy(self):
        """A Maker with the same past that changes apart from this one."""
        other = Maker(self.book, self.web)
        other._states = self._states
        return other

    def __eq__(self, other):
        return isinstance(other, Maker) and self.book == other.book and self.web == other.web


class Trial:
    """For a with: a block that leaves the maker as it was if an error leaves the block."""

    def __init__(self, maker):
        need_maker(maker)
        self._maker = maker
        self._states = maker._states

    def __enter__(self):
        maker = self._maker
        self._states = maker._states
        return maker

    def __exit__(self, kind, value, trace):
        maker = self._maker
        if kind is not None:
            maker._states = self._states


def tried(maker, action):
    """What the action returns for the maker, which is as it was if the action raises an error."""
    with Trial(maker) as held:
        return action(held)
