"""The bracket by leaving and taking one tie after the other."""

from neverfewer.active import check_order
from neverfewer.drawings import check_drawing
from neverfewer.edits import shrunk, taken
from neverfewer.laurent import Laurent
from neverfewer.trees import trees
from neverfewer.webs import is_bridge, is_loop


def bracket_by_leaving(drawing, order):
    """What the drawing gives, its ties left or taken in this order."""
    check_drawing(drawing)
    check_order(drawing.web(), order)
    # Leaving and taking ends once for each tree; so the trees are asked whether they are too many.
    trees(drawing.web())
    return _given(drawing.web(), drawing.marks(), order)


def _given(web, marks, order):
    if not marks:
        return Laurent(0, [1])
    tie, mark = order[0], marks[order[0]]
    left = marks[:tie] + marks[tie + 1:]
    later = [other - 1 if other > tie else other for other in order[1:]]
    if is_loop(web, tie):
        return -_given(taken(web, tie), left, later).shifted(3 * mark)
    if is_bridge(web, tie):
        return -_given(shrunk(web, tie), left, later).shifted(-3 * mark)
    return _given(shrunk(web, tie), left, later).shifted(mark) + _given(taken(web, tie), left, later).shifted(-mark)
