"""Spans of drawings, full drawings, and why a chart is never drawn with fewer ties."""

from neverfewer.blocks import blocks
from neverfewer.drawings import check_drawing, plain_drawing
from neverfewer.errors import NotChart
from neverfewer.moves import moves_done
from neverfewer.states import bracket, circles
from neverfewer.values import is_below, is_list, is_mark, is_ties, is_word
from neverfewer.webs import check_web, is_chart


def span(drawing):
    """The span of the drawing's bracket."""
    return bracket(drawing).span()


def even_circles(drawing):
    """How many circles the state has with the ties of mark 1 kept, and the one with those of mark -1."""
    check_drawing(drawing)
    marks = drawing.marks()
    kept, left = [tuple([tie for tie in range(len(marks)) if marks[tie] == mark]) for mark in (1, -1)]
    return circles(drawing.web(), kept), circles(drawing.web(), left)


def is_full(drawing):
    """Whether each block of the web has at least two ties, all of one mark."""
    return span_paper(drawing)[0] == "full"


def span_paper(drawing):
    """The span paper of the drawing that tells the first block that is not as in a full one, if any."""
    check_drawing(drawing)
    marks = drawing.marks()
    found = []
    for ties in blocks(drawing.web()):
        first = ties[0]
        if len(ties) == 1:
            return ("less", "single", first)
        unlike = [tie for tie in ties if marks[tie] != marks[first]]
        if unlike:
            return ("less", "mixed", first, unlike[0])
        found.append((ties, marks[first]))
    return ("full", found)


def is_span_paper(drawing, value):
    """Whether any value is a span paper of the drawing."""
    check_drawing(drawing)
    if not isinstance(value, tuple):
        return False
    if len(value) == 2 and is_word(value[0], ("full",)):
        return _tells_full(drawing, value[1])
    if len(value) < 3 or not is_word(value[0], ("less",)):
        return False
    if len(value) == 3 and is_word(value[1], ("single",)):
        return is_below(value[2], drawing.many) and (value[2],) in blocks(drawing.web())
    return len(value) == 4 and is_word(value[1], ("mixed",)) and _are_mixed(drawing, value[2:])


def _tells_full(drawing, value):
    """Whether any value is the list of all blocks with the marks of their ties, if the drawing is full."""
    if not is_list(value) or not all([_is_pair(drawing, pair) for pair in value]):
        return False
    return span_paper(drawing) == ("full", list(value))


def _is_pair(drawing, value):
    return isinstance(value, tuple) and len(value) == 2 and is_ties(value[0], drawing.many) and is_mark(value[1])


def _are_mixed(drawing, pair):
    """Whether two values are rising ties of one block of unlike marks."""
    if not is_ties(pair, drawing.many) or drawing.marks()[pair[0]] == drawing.marks()[pair[1]]:
        return False
    return any([pair[0] in ties and pair[1] in ties for ties in blocks(drawing.web())])


def least_ties(drawing):
    """A quarter of the span: no moves lead to a drawing with fewer ties."""
    return span(drawing) // 4


def never(web, moves):
    """How many ties the plain drawing of the chart has, and each drawing that the moves make of it."""
    check_web(web)
    if web.many > 0 and not is_chart(web):
        raise NotChart()
    return [drawing.many for drawing in moves_done(plain_drawing(web), moves)]
