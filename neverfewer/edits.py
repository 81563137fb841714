"""Ties laid, hung and stretched, taken and shrunk."""

from neverfewer.checks import check_corner, check_room
from neverfewer.cycles import changed, rotated, ties_called, turn_of
from neverfewer.errors import IsLoop, NotFacing, Parted
from neverfewer.values import other_ties
from neverfewer.webs import Web, check_tie, check_web, is_bridge, is_loop


def laid(web, corner, other):
    """The web with a tie laid from corner to other."""
    check_web(web)
    check_corner(web, corner)
    check_corner(web, other)
    if not are_facing(web, corner, other):
        raise NotFacing()
    check_room(web.many + 1)
    new = 2 * web.many
    once = _put_behind(web.turn(), corner, new)
    return Web(_put_behind(once, new if other == corner else other, new + 1))


def are_facing(web, corner, other):
    """Whether two corners are in one face."""
    return corner == other or web.turn()[other] in web.face(web.turn()[corner])


def _put_behind(turn, corner, dart):
    """The turn with the next dart right behind the corner; without ties it stands alone."""
    if not turn:
        return (dart,)
    longer = list(turn) + [turn[corner]]
    longer[corner] = dart
    return tuple(longer)


def hung(web, corner):
    """The web with a tie hung at the corner."""
    check_web(web)
    check_corner(web, corner)
    check_room(web.many + 1)
    new = 2 * web.many
    return Web(_put_behind(web.turn(), corner, new) + (new + 1,))


def stretched(web, tie):
    """The web with the tie stretched."""
    check_web(web)
    check_tie(web, tie)
    check_room(web.many + 1)
    far, new = 2 * tie + 1, 2 * web.many
    return Web(turn_of(changed(web.places(), [((far,), (new + 1,))]) + [(far, new)]))


def taken(web, tie):
    """The web with the tie taken."""
    check_web(web)
    check_tie(web, tie)
    if is_bridge(web, tie):
        raise Parted()
    return Web(turn_without(web.places(), (tie,)))


def shrunk(web, tie):
    """The web with the tie shrunk."""
    check_web(web)
    check_tie(web, tie)
    if is_loop(web, tie):
        raise IsLoop()
    one, far = web.place(2 * tie), web.place(2 * tie + 1)
    others = [place for place in web.places() if place != one and place != far]
    return Web(turn_without(others + [rotated(one, 2 * tie) + rotated(far, 2 * tie + 1)], (tie,)))


def turn_without(places, ties):
    """The turn of the places without the darts of these ties, the other ties called anew."""
    many = sum([len(place) for place in places]) // 2
    kept = [[dart for dart in place if dart // 2 not in ties] for place in places]
    return turn_of(ties_called(kept, other_ties(many, ties)))
