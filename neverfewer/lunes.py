"""Blocks cut along lines from one place to an other through the faces that both have."""

from neverfewer.cycles import positions, rotated
from neverfewer.joints import reached


def lunes_of(web):
    """For each two places of the block with two faces or more in common, the ties between these."""
    places = web.places()
    found = []
    for at, one in enumerate(places):
        for other in places[at + 1:]:
            lunes = _lunes_between(web, one, other)
            if len(lunes) >= 2:
                found.append(lunes)
    return found


def _lunes_between(web, one, other):
    """The ties between each common face and the next one, as they follow one another at one."""
    faces = positions(web.faces())
    there = [faces[dart] for dart in other]
    # In a block no face has two darts of one place, so each common face has one of them.
    firsts = [dart for dart in one if faces[dart] in there]
    return [_lune(web, one, other, firsts, first) for first in firsts]


def _lune(web, one, other, firsts, first):
    run = [first]
    for dart in rotated(one, first)[1:]:
        if dart in firsts:
            break
        run.append(dart)
    return reached(web, [dart // 2 for dart in run], [one, other])
