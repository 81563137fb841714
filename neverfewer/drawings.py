"""Drawings of cords: webs with a mark for each tie."""

from neverfewer.errors import InvalidDrawing, InvalidMarks
from neverfewer.names import carryings
from neverfewer.values import is_list, is_mark
from neverfewer.webs import about, behind, check_web


class Drawing:
    """A drawing, which never changes."""

    def __init__(self, web, marks):
        check_web(web)
        if not _are_marks(web, marks):
            raise InvalidMarks(marks)
        self._web = web
        self._marks = tuple(marks)

    def web(self):
        """The web."""
        return self._web

    def marks(self):
        """The tuple of the marks."""
        return self._marks

    @property
    def many(self):
        """How many ties the drawing has."""
        return len(self._marks)

    def __eq__(self, other):
        return isinstance(other, Drawing) and self._web == other._web and self._marks == other._marks


def _are_marks(web, value):
    """Whether any value is a list of a MARK for each tie."""
    return is_list(value) and len(value) == web.many and all([is_mark(mark) for mark in value])


def check_drawing(drawing):
    """Raises InvalidDrawing unless it is a Drawing."""
    if not isinstance(drawing, Drawing):
        raise InvalidDrawing(drawing)


def plain_drawing(web):
    """The drawing of the web with all marks 1."""
    check_web(web)
    return Drawing(web, [1] * web.many)


def _negated_marks(drawing):
    return [-mark for mark in drawing.marks()]


def negated(drawing):
    """The drawing with each mark negated."""
    check_drawing(drawing)
    return Drawing(drawing.web(), _negated_marks(drawing))


def from_behind(drawing):
    """The drawing from behind."""
    check_drawing(drawing)
    return Drawing(behind(drawing.web()), drawing.marks())


def other_colour(drawing):
    """The other colour of the drawing."""
    check_drawing(drawing)
    return Drawing(about(drawing.web()), _negated_marks(drawing))


def drawings_alike(drawing, other):
    """Whether the drawings are alike."""
    check_drawing(drawing)
    check_drawing(other)
    marks, others = drawing.marks(), other.marks()
    return any([
        all([others[darts[2 * tie] // 2] == mark for tie, mark in enumerate(marks)])
        for darts in carryings(drawing.web(), other.web())
    ])
