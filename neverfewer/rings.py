"""Rings of webs, and the even rows that tell which webs have the same ones."""

from neverfewer.cycles import positions
from neverfewer.pieces import pieces
from neverfewer.values import other_ties
from neverfewer.walks import closed_way
from neverfewer.webs import check_web


def rings(web):
    """The sorted list of the rings."""
    check_web(web)
    at = positions(web.places())
    return sorted([ring for tie in range(web.many) for ring in _rings_from(at, tie)])


def _rings_from(at, first):
    """The rings of which this is the least tie, by the position of the place of each dart."""
    found = []
    # Each way begins with the tie, along one side of it, so no ring is met in both senses.
    ways = [((first,), (at[2 * first + 1],))]
    while ways:
        ties, passed = ways.pop()
        if passed[-1] == at[2 * first]:
            found.append(tuple(sorted(ties)))
        else:
            ways.extend([
                (ties + (dart // 2,), passed + (at[dart ^ 1],)) for dart in range(2 * first + 2, len(at))
                if at[dart] == passed[-1] and at[dart ^ 1] not in passed
            ])
    return found


def even_rows(web):
    """The sorted list of the even rows."""
    check_web(web)
    return _even_rows_of(web)


def _even_rows_of(web):
    tree = _last_tree(web)
    return [tuple(sorted([dart // 2 for dart in closed_way(web, tree, tie)])) for tie in other_ties(web.many, tree)]


def _last_tree(web):
    """The ties that are no heads: those whose places no later ties join. They are a tree."""
    tree = []
    for tie in reversed(range(web.many)):
        at = pieces(web, tree)
        if at[2 * tie] != at[2 * tie + 1]:
            tree.append(tie)
    return tree


def same_rings(web, other):
    """Whether the webs have the same rings, tie by tie."""
    check_web(web)
    check_web(other)
    return web.many == other.many and _even_rows_of(web) == _even_rows_of(other)
