"""Claims: what can be said of a river, each with the paper that supports it."""

from riverkeeps.ahead import is_order_paper, is_precedence_paper, order_paper, precedence_paper
from riverkeeps.ends import is_end_places
from riverkeeps.errors import BadKind, RiverError
from riverkeeps.kinds import are_landings, are_texts, is_landing, is_list, is_row
from riverkeeps.roads import is_road, road
from riverkeeps.wishes import is_keep_paper, keep_paper

# For each claim that a paper supports: the words of the papers that do.
PAPER_WORDS = {
    "reach": ("history",),
    "apart": ("missing",),
    "precedes": ("blocked",),
    "loose": ("history",),
    "orderly": ("history",),
    "unorderly": ("stuck",),
    "keeps": ("kept",),
    "never": ("road", "room", "absent"),
}
STAGE_WORDS = ("reach", "apart")
LANDING_WORDS = ("precedes", "loose")
PAIR_WORDS = ("orderly", "unorderly")


def are_place_rows(value):
    """Tell whether the value is a list of tuples (thing, kind, town), whatever they name."""
    if not is_list(value) or not all([is_row(row, 3) for row in value]):
        return False
    return all([are_texts([thing, kind]) and (town is None or are_texts([town])) for thing, kind, town in value])


def are_pairs(value):
    """Tell whether the value is a list of pairs of landings, whatever they name."""
    if not is_list(value) or not all([is_row(pair, 2) for pair in value]):
        return False
    return all([is_landing(first) and is_landing(then) for first, then in value])


def is_claim(claim):
    """Tell whether the claim has one of the words, and arguments of the kinds that its word demands."""
    word = claim[0]
    if word == "ends":
        return is_row(claim, 2) and are_place_rows(claim[1])
    if word in PAIR_WORDS:
        return is_row(claim, 2) and are_pairs(claim[1])
    if word not in PAPER_WORDS or not is_row(claim, 3):
        return False
    if word in STAGE_WORDS:
        return are_landings(claim[1]) and are_landings(claim[2])
    if word in LANDING_WORDS:
        return is_landing(claim[1]) and is_landing(claim[2])
    return are_texts(claim[1:])


def is_paper(paper):
    """Tell whether the paper has a word, and a second value of the kind that its word demands."""
    if not is_row(paper, 2):
        return False
    word, value = paper
    if word == "missing":
        return is_landing(value)
    return value is None if word in ("road", "room") else are_landings(value)


def is_supported(river, claim, paper):
    """Tell whether the paper is right; raise an error for wrong arguments of the claim."""
    word = claim[0]
    if word in STAGE_WORDS:
        return is_road(river, claim[1], claim[2], paper)
    if word in LANDING_WORDS:
        return is_precedence_paper(river, claim[1], claim[2], paper)
    if word in PAIR_WORDS:
        return is_order_paper(river, claim[1], paper)
    return is_keep_paper(river, claim[1], claim[2], paper)


def is_good(river, claim, paper):
    """Judge whether the claim with the paper is good in the river."""
    if not is_claim(claim):
        return False
    if claim[0] == "ends":
        return paper is None and is_end_places(river, claim[1])
    if not is_paper(paper) or paper[0] not in PAPER_WORDS[claim[0]]:
        return False
    try:
        return is_supported(river, claim, paper)
    except RiverError:
        return False


def found_paper(river, claim):
    """Return the paper that shows whether the claim or its opposite holds."""
    word = claim[0]
    if word in STAGE_WORDS:
        return road(river, claim[1], claim[2])
    if word in LANDING_WORDS:
        return precedence_paper(river, claim[1], claim[2])
    if word in PAIR_WORDS:
        return order_paper(river, claim[1])
    return keep_paper(river, claim[1], claim[2])


def paper_for(river, claim):
    """Return the paper that supports the claim, or None."""
    if claim[0] == "ends":
        return None
    if claim[0] not in PAPER_WORDS:
        raise BadKind(claim[0])
    paper = found_paper(river, claim)
    return paper if is_good(river, claim, paper) else None
