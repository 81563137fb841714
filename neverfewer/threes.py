"""Moves of drawings at three ties: a face becomes a place, a place a face."""

from neverfewer.cycles import turn_of
from neverfewer.drawings import Drawing
from neverfewer.values import is_below
from neverfewer.webs import Web


def is_three(drawing, value):
    """Whether a tuple that begins with one of these words is a move of the drawing."""
    web = drawing.web()
    if len(value) != 2 or not is_below(value[1], 2 * web.many):
        return False
    cycle = three_darts(web, value)
    ties = [dart // 2 for dart in cycle]
    if cycle[0] != value[1] or len(cycle) != 3 or len(set(ties)) != 3:
        return False
    return len(set([drawing.marks()[tie] for tie in ties])) == 2


def three_darts(web, move):
    """The darts of the face or of the place, from the least one on."""
    return web.face(move[1]) if move[0] == "star" else web.place(move[1])


def three_done(drawing, move):
    """What the move makes of the drawing."""
    web = drawing.web()
    x, y, z = three_darts(web, move)
    places = _starred(web, x, y, z) if move[0] == "star" else _flattened(web, x, y, z)
    gone = (x // 2, y // 2, z // 2)
    marks = [-mark if tie in gone else mark for tie, mark in enumerate(drawing.marks())]
    return Drawing(Web(turn_of(places)), marks)


def _starred(web, x, y, z):
    """The places with the corners of the face drawn together to a new one."""
    # A corner of the face lies between the other end of a dart and the next dart.
    new = {y ^ 1: (x,), z: (), z ^ 1: (y,), x: (), x ^ 1: (z,), y: ()}
    return _exchanged(web.places(), new) + [(x ^ 1, z ^ 1, y ^ 1)]


def _flattened(web, p, q, r):
    """The places with the one of these darts drawn out to a face."""
    new = {p ^ 1: (r, q ^ 1), q ^ 1: (p, r ^ 1), r ^ 1: (q, p ^ 1)}
    return _exchanged([place for place in web.places() if p not in place], new)


def _exchanged(places, new):
    """The places with each of the darts exchanged for its row of new ones."""
    return [[one for dart in place for one in new.get(dart, (dart,))] for place in places]
