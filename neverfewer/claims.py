"""What claims at a desk ask of drawings, and papers of it."""

from neverfewer.cords import cords
from neverfewer.ears import is_block
from neverfewer.papers import decision
from neverfewer.plain import are_one
from neverfewer.rings import same_rings
from neverfewer.spans import is_full, least_ties, span_paper
from neverfewer.twists import turn_row

MOST_TIES = 10
MOST_CHARTS = 40


def names_in(claim):
    """The names that the claim asks of."""
    return [part for part in claim[1:] if isinstance(part, str)]


def state_of(claim, drawings):
    """The state of the claim by the drawings, a dict by their names."""
    if not all([name in drawings for name in names_in(claim)]):
        return None
    word, asked = claim[0], [drawings[name] for name in names_in(claim)]
    if not _is_asked(word, asked):
        return None
    webs = [drawing.web() for drawing in asked]
    if word == "one":
        return are_one(webs[0], webs[1])
    if word == "rings":
        return same_rings(webs[0], webs[1])
    if word == "full":
        return is_full(asked[0])
    return claim[2] == (least_ties(asked[0]) if word == "least" else len(cords(webs[0])))


def _is_asked(word, drawings):
    """Whether what the word asks is asked of these drawings."""
    if word in ("full", "least"):
        return drawings[0].many <= MOST_TIES
    if word == "cords":
        return True
    if not all([is_block(drawing.web()) for drawing in drawings]):
        return False
    if word == "rings":
        return drawings[0].many == drawings[1].many
    return len(set([mark for drawing in drawings for mark in drawing.marks()])) == 1


def paper_of(claim, drawings):
    """A paper of the claim; None if its state is None."""
    if state_of(claim, drawings) is None:
        return None
    word, asked = claim[0], [drawings[name] for name in names_in(claim)]
    if word == "one":
        return decision(asked[0].web(), asked[1].web(), MOST_CHARTS)
    if word == "rings":
        return turn_row(asked[0].web(), asked[1].web())
    return cords(asked[0].web()) if word == "cords" else span_paper(asked[0])
