"""Moves of drawings that take away ties."""

from neverfewer.cycles import rotated
from neverfewer.drawings import Drawing
from neverfewer.edits import turn_without
from neverfewer.pieces import pieces
from neverfewer.values import are_below, other_ties
from neverfewer.webs import Web

TAKING = ("unloop", "unhang", "undouble", "unsplit")


def ties_taken(word):
    """How many ties a move of this word takes away."""
    return 1 if word in ("unloop", "unhang") else 2


def is_taking(drawing, value):
    """Whether a tuple that begins with one of these words is a move of the drawing."""
    word, ties = value[0], value[1:]
    if len(ties) != ties_taken(word) or not are_below(ties, drawing.many):
        return False
    if len(ties) == 1:
        return first_dart(drawing.web(), word, ties[0]) is not None
    if ties[0] >= ties[1] or drawing.marks()[ties[0]] == drawing.marks()[ties[1]]:
        return False
    return pair_of_darts(drawing.web(), word, ties) is not None


def first_dart(web, word, tie):
    """The dart of the tie at which a loop begins, or a tie hangs; None if there is none."""
    for dart in (2 * tie, 2 * tie + 1):
        alone = dart ^ 1 if word == "unhang" else dart
        if web.turn()[alone] == dart ^ 1:
            return dart
    return None


def pair_of_darts(web, word, ties):
    """Darts of the two ties that are a face, or a place, together; None if there are none."""
    for cycle in web.faces() if word == "undouble" else web.places():
        if len(cycle) == 2:
            for one, other in (cycle, cycle[::-1]):
                if (one // 2, other // 2) == ties:
                    return one, other
    return None


def does_part(drawing, move):
    """Whether the move parts the drawing."""
    web, word, ties = drawing.web(), move[0], move[1:]
    if word == "undouble":
        at = pieces(web, other_ties(web.many, ties))
        return at[2 * ties[0]] != at[2 * ties[0] + 1]
    if word == "unsplit":
        one, other = pair_of_darts(web, word, ties)
        return other ^ 1 in web.place(one ^ 1)
    return False


def taking_done(drawing, move):
    """What the move makes of the drawing, if it does not part it."""
    web, ties = drawing.web(), move[1:]
    places = _merged(web, ties) if move[0] == "unsplit" else web.places()
    marks = [mark for tie, mark in enumerate(drawing.marks()) if tie not in ties]
    return Drawing(Web(turn_without(places, ties)), marks)


def _merged(web, ties):
    """The places with those at the far ends of both ties made one."""
    far = far_rows(web, ties)
    gone = [row[0] for row in far]
    others = [place for place in web.places() if gone[0] not in place and gone[1] not in place]
    return others + [far[0] + far[1]]


def far_rows(web, ties):
    """The places at the far ends of two ties that have a place for themselves, from these ends on."""
    far = [dart ^ 1 for dart in pair_of_darts(web, "unsplit", ties)]
    return [rotated(web.place(dart), dart) for dart in far]
