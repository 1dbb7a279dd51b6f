"""A desk: books, fronts and webs under names, and commands about them."""

from wakesayings.commands import answer_of, changed_web, parts_of
from wakesayings.errors import CommandFailed, InvalidEntry, InvalidName, LimitError, MissingError, NothingToUndo
from wakesayings.errors import StateError, UnknownName, WakeError
from wakesayings.shapes import is_entry, is_of_shape
from wakesayings.words import is_letter

DONE = "done"


def is_name(shape):
    """Whether a word of this shape in a command names an entry."""
    return shape in ("book", "front", "web", "name")


class Desk:
    """Books, fronts and webs under names; it changes, and each change can be taken back."""

    def __init__(self):
        # All that ever was, as dicts from names to entries, what is now at last. Each change gives a new list with a
        # new dict, so that a copy may keep the old ones.
        self._states = [{}]

    def __getitem__(self, name):
        if name not in self:
            raise UnknownName(name)
        return self._states[-1][name]

    def __setitem__(self, name, entry):
        self.put(name, entry)

    def __iter__(self):
        raise TypeError("a desk is not iterated over")

    def __contains__(self, value):
        # Names are what letters are.
        return is_letter(value) and value in self._states[-1]

    def __len__(self):
        return len(self._states[-1])

    def put(self, name, entry):
        """Put an entry under a name, also in the place of another one."""
        if not is_letter(name):
            raise InvalidName(name)
        if not is_entry(entry):
            raise InvalidEntry(entry)
        last = self._states[-1]
        now = {held: last[held] for held in last}
        now[name] = entry
        self._states = self._states + [now]

    def drop(self, name):
        """Take the entry with a name off the desk."""
        if name not in self:
            raise UnknownName(name)
        last = self._states[-1]
        self._states = self._states + [{held: last[held] for held in last if held != name}]

    def names(self):
        """The sorted list of its names."""
        return sorted(list(self._states[-1]))

    @property
    def changes(self):
        """How many changes can be taken back."""
        return len(self._states) - 1

    def undo(self):
        """Take back the last change."""
        if len(self._states) == 1:
            raise NothingToUndo()
        self._states = self._states[:-1]

    def do(self, command):
        """Do what a command says; returns its answer, a string."""
        kind, parts = parts_of(command)
        told = self._told(parts)
        if kind == "undo":
            self.undo()
        elif kind == "drop":
            self.drop(parts[0][1])
        elif kind in ("round", "rest", "tell", "join"):
            # The only web that such a command names.
            name = [part for shape, part in parts if shape == "web"][0]
            self.put(name, changed_web(kind, told))
        else:
            return answer_of(kind, told)
        return DONE

    def _told(self, parts):
        """The list of the parts of a command, with the entries in the place of their names."""
        for shape, part in parts:
            if is_name(shape) and part not in self:
                raise UnknownName(part)
        for shape, part in parts:
            if is_name(shape) and shape != "name" and not is_of_shape(shape, self[part]):
                raise InvalidEntry(part)
        return [self[part] if is_name(shape) else part for shape, part in parts]

    def do_all(self, *commands):
        """Do what commands say, one after another; returns the list of their answers. All are done, or none."""
        before = self._states
        answers = []
        for position, command in enumerate(commands):
            try:
                answers.append(self.do(command))
            except (WakeError, MissingError, StateError, LimitError) as error:
                self._states = before
                raise CommandFailed(position) from error
        return answers

    def copy(self):
        """A Desk with the same entries and changes that changes apart from this one."""
        other = Desk()
        other._states = self._states
        return other

    def attempt(self, *commands):
        """What do_all would return or raise; nothing changes."""
        return self.copy().do_all(*commands)

    def tried_by(self, action):
        """What the action returns for a copy of this desk."""
        return action(self.copy())
