"""Plain names of blocks, and whether two blocks are ONE."""

from neverfewer.ears import check_block, check_blocks
from neverfewer.gathered import gathered_by
from neverfewer.names import name
from neverfewer.rounds import round_of


def plain(web):
    """The plain name of the block."""
    check_block(web)
    return min(_gathered_names(web))


def _gathered_names(web):
    """The names of all gathered blocks of the lot of what is known to be a block."""
    return [called for called, one, ahead, deeds in round_of(gathered_by(web)[1])]


def are_one(web, other):
    """Whether two blocks are ONE."""
    check_blocks(web, other)
    return name(gathered_by(other)[1]) in _gathered_names(web)
