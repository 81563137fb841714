"""Signs of ties by directions of the cords, and the linking of cords."""

from neverfewer.cords import check_directions, cords, entries
from neverfewer.drawings import check_drawing
from neverfewer.errors import InvalidCord
from neverfewer.values import is_below
from neverfewer.webs import check_tie


def signs(drawing, directions):
    """The list of the signs of all ties."""
    check_drawing(drawing)
    check_directions(drawing.web(), directions)
    pairs = entries(drawing.web(), directions)
    return [_sign(pair, mark) for pair, mark in zip(pairs, drawing.marks())]


def _sign(pair, mark):
    """The sign of a tie that is entered by this pair of ends."""
    return mark if pair[0] // 2 == pair[1] // 2 else -mark


def sum_of_signs(drawing, directions):
    """The sum of the signs of all ties."""
    return sum(signs(drawing, directions))


def over_end(drawing, directions, tie):
    """The end by which the cord that goes over comes in at the tie."""
    check_drawing(drawing)
    check_directions(drawing.web(), directions)
    check_tie(drawing.web(), tie)
    odd = 0 if drawing.marks()[tie] == 1 else 1
    return [end for end in entries(drawing.web(), directions)[tie] if end % 2 == odd][0]


def linking(drawing, directions, one, other):
    """The linking of two unlike cords."""
    told = signs(drawing, directions)
    found = cords(drawing.web())
    if not is_below(one, len(found)):
        raise InvalidCord(one)
    if not is_below(other, len(found)) or other == one:
        raise InvalidCord(other)
    ties, others = [[end // 4 for end in found[at]] for at in (one, other)]
    return sum([sign for tie, sign in enumerate(told) if tie in ties and tie in others]) // 2
