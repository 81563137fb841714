"""The one tree of parts: strong parts, nodes, and their skeletons."""

from neverfewer.cycles import turn_of
from neverfewer.ears import check_block
from neverfewer.errors import InvalidPieces
from neverfewer.necklaces import bunches, necklaces
from neverfewer.parts import parts, runs_of
from neverfewer.values import is_ties, other_ties, without
from neverfewer.webs import Web


def strong(web):
    """The sorted list of all strong parts of the block."""
    # A tie alone, or all ties but one, cannot cross a part.
    large = [ties for ties in parts(web) if 2 <= len(ties) <= web.many - 2]
    bits = [_bits(ties) for ties in large]
    all_bits = _bits(list(range(web.many)))
    return [ties for ties in large if not _is_crossed(_bits(ties), bits, all_bits)]


def _bits(ties):
    """The ties as the bits of one integer."""
    return sum([1 << tie for tie in ties])


def _is_crossed(one, others, all_bits):
    return any([(one & other) not in (0, one, other) and (one | other) != all_bits for other in others])


def nodes(web):
    """The sorted list of all nodes of the block."""
    check_block(web)
    if web.many == 2:
        return []
    candidates = strong(web) + [(tie,) for tie in range(web.many)]
    found = {_node_with(web.many, candidates, piece): True for piece in candidates}
    kinds = {tuple(sorted(pieces)): "necklace" for pieces in necklaces(web)}
    for pieces in bunches(web):
        kinds[tuple(sorted(pieces))] = "bunch"
    return sorted([(kinds.get(pieces, "firm"), pieces) for pieces in found])


def _node_with(many, candidates, piece):
    """The pieces of the node of which this is a piece: the others are the greatest in its rest."""
    outside = other_ties(many, piece)
    within = [ties for ties in candidates if _lies_within(ties, outside)]
    greatest = [ties for ties in within if not any([_lies_within(ties, other) for other in within])]
    return tuple(sorted(greatest + [piece]))


def _lies_within(ties, others):
    return ties != others and not without(ties, others)


def skeleton(web, pieces):
    """The web that is the skeleton of the node with these pieces."""
    check_block(web)
    if not _are_pieces(web, pieces):
        raise InvalidPieces(pieces)
    standing = {}
    for at, piece in enumerate(pieces):
        for side, run in enumerate(runs_of(web, piece)):
            standing[run[0]] = 2 * at + side
    # Each run is told by its first dart; a place that is no end of a piece is left empty.
    return Web(turn_of([[standing[dart] for dart in place if dart in standing] for place in web.places()]))


def _are_pieces(web, value):
    """Whether any value is the tuple of the pieces of a node of the block."""
    if not isinstance(value, tuple) or not all([is_ties(piece, web.many) for piece in value]):
        return False
    return value in [pieces for kind, pieces in nodes(web)]
