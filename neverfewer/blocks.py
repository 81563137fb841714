"""The blocks of a web, the tree that they make, and webs joined."""

from neverfewer.checks import check_corner, check_room
from neverfewer.cycles import ties_called, turn_of
from neverfewer.errors import InvalidTies
from neverfewer.joints import joints, shares
from neverfewer.values import is_ties
from neverfewer.webs import Web, check_web


def parting_places(web):
    """The sorted list of the places that part the web."""
    check_web(web)
    return joints(web)


def blocks(web):
    """The sorted list of the blocks of the web."""
    check_web(web)
    found = [tuple(range(web.many))] if web.many else []
    # Two ties are in one block just if no place parts them from one another.
    for place in joints(web):
        found = [block for share in shares(web, place) for block in _cut(found, share)]
    return sorted(found)


def _cut(found, share):
    """What the share has of each of those found, if anything."""
    pieces = [tuple([tie for tie in ties if tie in share]) for ties in found]
    return [piece for piece in pieces if piece]


def block_web(web, ties):
    """The web of one block of the web."""
    check_web(web)
    if not is_ties(ties, web.many) or ties not in blocks(web):
        raise InvalidTies(ties)
    kept = [[dart for dart in place if dart // 2 in ties] for place in web.places()]
    return Web(turn_of(ties_called(kept, ties)))


def block_tree(web):
    """The sorted list of the pairs of a parting place and the position of a block there."""
    check_web(web)
    found = blocks(web)
    return [
        (place, at) for place in joints(web) for at, ties in enumerate(found)
        if any([dart // 2 in ties for dart in place])
    ]


def joined(web, corner, other, its):
    """The other web joined to the web at a corner of each."""
    check_web(web)
    check_corner(web, corner)
    check_web(other)
    check_corner(other, its)
    check_room(web.many + other.many)
    if web.many == 0 or other.many == 0:
        return Web(web.turn() + other.turn())
    shift = 2 * web.many
    turn = list(web.turn()) + [dart + shift for dart in other.turn()]
    turn[corner], turn[shift + its] = turn[shift + its], turn[corner]
    return Web(tuple(turn))
