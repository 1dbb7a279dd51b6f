"""Commands of a desk: their words, and what they answer."""

from wakesayings.coming import comes
from wakesayings.ending import ends
from wakesayings.errors import InvalidCommand, InvalidText
from wakesayings.finding import alike, first_missed, least_sets, needless
from wakesayings.making import after_round, end_of, rounds_of
from wakesayings.singles import ever_there, web_depth, web_size
from wakesayings.texts import read_term
from wakesayings.words import is_letter, read_word, text_of_word

WORD = "word"
TERM = "term"

# What stands behind the first words of commands.
SHAPES = {
    "ends": ("book",),
    "comes": ("book", "front", "word"),
    "size": ("book", "web"),
    "depth": ("book", "web"),
    "rounds": ("book", "web"),
    "ever": ("book", "web", "term"),
    "finds": ("book", "book"),
    "alike": ("book", "book"),
    "needless": ("book",),
    "least": ("book",),
    "round": ("book", "web"),
    "rest": ("book", "web"),
    "tell": ("web", "term"),
    "join": ("web", "term", "term"),
    "drop": ("name",),
    "undo": (),
}


def part_of(shape, text):
    """The word or the term that a text tells, the text itself if it is a name; None if it is not what is asked for."""
    try:
        if shape == WORD:
            return read_word(text)
        if shape == TERM:
            return read_term(text)
    except InvalidText:
        return None
    return text if is_letter(text) else None


def parts_of(command):
    """The tuple of a command's first word and the list of the tuples (shape, part) of the words behind it."""
    if not isinstance(command, str):
        raise InvalidCommand(command)
    texts = command.split(" ")
    kind = texts[0]
    if kind not in SHAPES or len(texts) != len(SHAPES[kind]) + 1:
        raise InvalidCommand(command)
    parts = [(shape, part_of(shape, texts[at + 1])) for at, shape in enumerate(SHAPES[kind])]
    if any([part is None for shape, part in parts]):
        raise InvalidCommand(command)
    return (kind, parts)


def yes_or_no(answer):
    """The text of a bool."""
    return "yes" if answer else "no"


def number_or_none(answer):
    """The text of a number, or of None."""
    return "none" if answer is None else str(answer)


def text_of_missed(missed):
    """The text of the first missed make, or of None."""
    return "yes" if missed is None else f"{missed[0]} {text_of_word(missed[1])}"


def text_of_numbers(numbers):
    """The text of the numbers of needless sayings."""
    return " ".join([str(number) for number in numbers]) if numbers else "none"


def text_of_sets(sets):
    """The text of least sets."""
    return " ".join([",".join([str(number) for number in part]) if part else "-" for part in sets])


def answer_of(kind, told):
    """What a command answers that changes nothing; told is the list of the objects, words and terms that it names."""
    match kind:
        case "ends":
            return yes_or_no(ends(*told))
        case "comes":
            return yes_or_no(comes(*told))
        case "size":
            return number_or_none(web_size(*told))
        case "depth":
            return number_or_none(web_depth(*told))
        case "rounds":
            return str(rounds_of(*told))
        case "ever":
            return yes_or_no(ever_there(*told))
        case "finds":
            return text_of_missed(first_missed(*told))
        case "alike":
            return yes_or_no(alike(*told))
        case "needless":
            return text_of_numbers(needless(*told))
    return text_of_sets(least_sets(*told))


def changed_web(kind, told):
    """The web that a command puts in the place of the one that it names."""
    match kind:
        case "round":
            return after_round(*told)
        case "rest":
            return end_of(*told)
        case "tell":
            web, term = told
            return web + term
    web, one, another = told
    return web.with_pair(one, another)
