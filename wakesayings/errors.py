"""The errors of the package.

Each one keeps just what it is made with, whatever that is.
"""


class WakeError(ValueError):
    """What was passed is not of the kind that is asked for."""


class InvalidLetter(WakeError):
    """The value is no letter."""

    def __init__(self, value):
        self.value = value


class InvalidWord(WakeError):
    """The value is no word."""

    def __init__(self, value):
        self.value = value


class InvalidWords(WakeError):
    """The words are no list (None), or the one at the position is no word."""

    def __init__(self, position):
        self.position = position


class InvalidNumber(WakeError):
    """The value is no number of the kind that is asked for."""

    def __init__(self, value):
        self.value = value


class InvalidFront(WakeError):
    """The value is no Front."""

    def __init__(self, value):
        self.value = value


class InvalidTriggers(WakeError):
    """The triggers are no fitting list (None), or the one at the position is wrong."""

    def __init__(self, position):
        self.position = position


class InvalidMakes(WakeError):
    """The makes are no fitting list (None), or the one at the position is wrong."""

    def __init__(self, position):
        self.position = position


class InvalidSaying(WakeError):
    """The value is no Saying."""

    def __init__(self, value):
        self.value = value


class InvalidSayings(WakeError):
    """The sayings are no list (None), or the one at the position is no Saying."""

    def __init__(self, position):
        self.position = position


class InvalidBook(WakeError):
    """The value is no Book."""

    def __init__(self, value):
        self.value = value


class InvalidThings(WakeError):
    """The things are no list (None), or the one at the position is no name."""

    def __init__(self, position):
        self.position = position


class InvalidTerm(WakeError):
    """The value is no term."""

    def __init__(self, value):
        self.value = value


class InvalidTerms(WakeError):
    """The terms are no list (None), or the one at the position is no term."""

    def __init__(self, position):
        self.position = position


class InvalidPairs(WakeError):
    """The pairs are no list (None), or the one at the position is no pair of terms."""

    def __init__(self, position):
        self.position = position


class InvalidWeb(WakeError):
    """The value is no Web."""

    def __init__(self, value):
        self.value = value


class InvalidInstances(WakeError):
    """The instances are no list (None), or the one at the position is none."""

    def __init__(self, position):
        self.position = position


class InvalidMaker(WakeError):
    """The value is no Maker."""

    def __init__(self, value):
        self.value = value


class InvalidOffers(WakeError):
    """The offers are no fitting list (None), or the row at the position is wrong."""

    def __init__(self, position):
        self.position = position


class InvalidChoice(WakeError):
    """The value is no choice of the offers."""

    def __init__(self, value):
        self.value = value


class InvalidWish(WakeError):
    """The value is no wish, or no part of one."""

    def __init__(self, value):
        self.value = value


class InvalidText(WakeError):
    """The text is wrong from this line on."""

    def __init__(self, line):
        self.line = line


class InvalidClaim(WakeError):
    """The value is no claim."""

    def __init__(self, value):
        self.value = value


class InvalidName(WakeError):
    """The value is no name."""

    def __init__(self, value):
        self.value = value


class InvalidEntry(WakeError):
    """The value is no entry of the kind that is asked for."""

    def __init__(self, value):
        self.value = value


class InvalidCommand(WakeError):
    """The value is no command."""

    def __init__(self, value):
        self.value = value


class MissingError(LookupError):
    """What is asked for is not there."""


class UnknownLetter(MissingError):
    """The value is no letter that is there."""

    def __init__(self, value):
        self.value = value


class UnknownTerm(MissingError):
    """The value is no term of the web."""

    def __init__(self, value):
        self.value = value


class UnknownName(MissingError):
    """The value is no name that is there."""

    def __init__(self, value):
        self.value = value


class NothingToUndo(MissingError):
    """There is no change left that could be taken back."""

    def __init__(self):
        pass


class StateError(RuntimeError):
    """What is asked for can't be done as things are."""


class CantMake(StateError):
    """The instance of this saying at this term can't be made."""

    def __init__(self, number, term):
        self.number = number
        self.term = term


class CommandFailed(StateError):
    """The command at the position raised an error."""

    def __init__(self, position):
        self.position = position


class LimitError(ArithmeticError):
    """What is asked for is greater than a limit."""


class TooMany(LimitError):
    """There would be more of these than the limit."""

    def __init__(self, what, limit):
        self.what = what
        self.limit = limit
