"""Blocks cut along lines from one place to an other through the faces that both have."""

from neverfewer.cycles import positions
from neverfewer.joints import reached


def lunes_of(web):
    """For each two places of the block with two faces or more in common, the ties between these."""
    places = web.places()
    faces = positions(web.faces())
    found = []
    for at, one in enumerate(places):
        for other in places[at + 1:]:
            lunes = _lunes_between(web, faces, one, other)
            if len(lunes) >= 2:
                found.append(lunes)
    return found


def _lunes_between(web, faces, one, other):
    """The ties between each common face and the next one, as they follow one another at one."""
    there = [faces[dart] for dart in other]
    # In a block no face has two darts of one place, so each common face has one of them. Ties
    # between two such faces hang together without both places: else one more face would have both.
    firsts = [dart for dart in one if faces[dart] in there]
    return [reached(web, [dart // 2], [one, other]) for dart in firsts]
