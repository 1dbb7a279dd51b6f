"""Claims about books, fronts and webs, and the papers for those that are true."""

from wakesayings.ending import is_lasso, is_ranked, lasso_of, ranked_table
from wakesayings.errors import InvalidClaim
from wakesayings.finding import finding_paper, is_finding_paper, is_missing_paper, missing_paper
from wakesayings.lines import derivation_of, is_derivation
from wakesayings.shapes import is_of_shape
from wakesayings.singles import is_rest_paper, is_run_paper, rest_paper, run_paper
from wakesayings.tables import shows, table_without
from wakesayings.words import is_word

NO_PAPER = "none"

KINDS = (
    "comes", "never comes", "ends", "goes on", "ends from", "goes on from", "rests", "never rests", "finds", "misses",
)

# What stands behind the first elements of claims.
SHAPES = {
    "comes": ("book", "front", "word"),
    "never comes": ("book", "front", "word"),
    "ends": ("book",),
    "goes on": ("book",),
    "ends from": ("book", "front"),
    "goes on from": ("book", "front"),
    "rests": ("book", "web"),
    "never rests": ("book", "web"),
    "finds": ("book", "book"),
    "misses": ("book", "book"),
}


def is_part(shape, value):
    """Whether any value is of the kind that a word of a shape asks for."""
    return is_word(value) if shape == "word" else is_of_shape(shape, value)


def is_claim(value):
    """Whether any value is a claim."""
    if not isinstance(value, tuple) or not value or not isinstance(value[0], str) or value[0] not in SHAPES:
        return False
    shapes = SHAPES[value[0]]
    return len(value) == len(shapes) + 1 and all([is_part(shape, value[at + 1]) for at, shape in enumerate(shapes)])


def need_claim(value):
    """Raise InvalidClaim unless the value is a claim."""
    if not is_claim(value):
        raise InvalidClaim(value)


def paper_or_none(kind, told):
    """A paper of the claim of this kind about what a list tells; None if it is false."""
    match kind:
        case "comes":
            return derivation_of(*told)
        case "never comes":
            return table_without(*told)
        case "ends" | "ends from":
            return ranked_table(*told)
        case "goes on" | "goes on from":
            return lasso_of(*told)
        case "rests":
            return rest_paper(*told)
        case "never rests":
            return run_paper(*told)
        case "finds":
            return finding_paper(*told)
    return missing_paper(*told)


def paper_of(claim):
    """A paper of the claim, or the string "none" if it is false."""
    need_claim(claim)
    paper = paper_or_none(claim[0], list(claim[1:]))
    return NO_PAPER if paper is None else paper


def is_paper(claim, value):
    """Whether any value is a paper of the claim."""
    need_claim(claim)
    told = list(claim[1:])
    match claim[0]:
        case "comes":
            return is_derivation(*told, value)
        case "never comes":
            return shows(*told, value)
        case "ends":
            return is_ranked(told[0], value)
        case "ends from":
            return is_ranked(told[0], value, told[1])
        case "goes on":
            return is_lasso(told[0], value)
        case "goes on from":
            return is_lasso(told[0], value, told[1])
        case "rests":
            return is_rest_paper(*told, value)
        case "never rests":
            return is_run_paper(*told, value)
        case "finds":
            return is_finding_paper(*told, value)
    return is_missing_paper(*told, value)
