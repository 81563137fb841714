"""Moves of drawings that lay on ties."""

from neverfewer.checks import is_corner
from neverfewer.cycles import rotated, turn_of
from neverfewer.drawings import Drawing
from neverfewer.edits import are_facing, hung, laid
from neverfewer.values import is_mark
from neverfewer.webs import Web

LAYING = ("loop", "hang", "double", "split")


def ties_laid(word):
    """How many ties a move of this word lays on."""
    return 1 if word in ("loop", "hang") else 2


def is_laying(drawing, value):
    """Whether a tuple that begins with one of these words is a move of the drawing."""
    word, web = value[0], drawing.web()
    if len(value) != ties_laid(word) + 2 or not is_mark(value[-1]):
        return False
    if not all([is_corner(web, corner) for corner in value[1:-1]]):
        return False
    if word == "double":
        return are_facing(web, value[1], value[2])
    return word != "split" or value[1] == value[2] or value[1] in web.place(value[2])


def laying_done(drawing, move):
    """What the move makes of the drawing, if there is room for its ties."""
    mark = move[-1]
    marks = (mark,) if ties_laid(move[0]) == 1 else (mark, -mark)
    return Drawing(_web_done(drawing.web(), move), drawing.marks() + marks)


def _web_done(web, move):
    word, corner = move[0], move[1]
    if word == "loop":
        return laid(web, corner, corner)
    if word == "hang":
        return hung(web, corner)
    if word == "double":
        return _doubled(web, corner, move[2])
    return _split(web, corner, move[2])


def _doubled(web, corner, other):
    new = 2 * web.many
    # The second tie lies within the first one, where the first one leads back to its own corner.
    return laid(laid(web, corner, other), new, new if other == corner else other)


def _split(web, corner, other):
    new = 2 * web.many
    if new == 0:
        return Web((0, 2, 1, 3))
    split = web.place(corner)
    row = rotated(split, web.turn()[corner])
    at = row.index(other) + 1
    others = [place for place in web.places() if place != split]
    return Web(turn_of(others + [row[:at] + (new,), (new + 1, new + 2), row[at:] + (new + 3,)]))
