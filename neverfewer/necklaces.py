"""Necklaces and bunches of blocks."""

from neverfewer.ears import check_block
from neverfewer.lunes import lunes_of
from neverfewer.webs import about


def bunches(web):
    """The sorted list of all bunches, each a tuple of its pieces."""
    check_block(web)
    return sorted([_told(pieces) for pieces in lunes_of(web) if len(pieces) >= 3])


def necklaces(web):
    """The sorted list of all necklaces, each a tuple of its pieces."""
    check_block(web)
    return bunches(about(web))


def _told(pieces):
    """The pieces as they follow one another, from the least on to its lesser neighbour."""
    at = pieces.index(min(pieces))
    round_on = pieces[at:] + pieces[:at]
    if round_on[1] > round_on[-1]:
        round_on = round_on[:1] + round_on[:0:-1]
    return tuple(round_on)
