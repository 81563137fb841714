"""Discs and bands along directed cords."""

from neverfewer.cords import check_directions, cords, entries
from neverfewer.states import circles
from neverfewer.webs import check_web


def kept_ways(web, directions):
    """The ties that are kept in direction."""
    check_web(web)
    check_directions(web, directions)
    return tuple([tie for tie, pair in enumerate(entries(web, directions)) if pair[0] // 2 == pair[1] // 2])


def discs(web, directions):
    """How many discs there are."""
    return circles(web, kept_ways(web, directions))


def length(web, directions):
    """How many ties there are, less how many discs, and 1."""
    many = discs(web, directions)
    return web.many - many + 1


def genus(web, directions):
    """Half of what the length and 1 are more than the cords."""
    return (length(web, directions) + 1 - len(cords(web))) // 2
