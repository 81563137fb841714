"""Inner and outer ties of trees, their table, and the bracket by trees."""

from neverfewer.drawings import check_drawing
from neverfewer.errors import InvalidOrder
from neverfewer.laurent import laurent_of
from neverfewer.pieces import pieces
from neverfewer.trees import check_tree, trees
from neverfewer.values import are_all_below, is_list, other_ties, without
from neverfewer.webs import check_web


def check_order(web, order):
    """Raises InvalidOrder unless it is a list that has each tie of the web once."""
    if not is_list(order) or not are_all_below(order, web.many):
        raise InvalidOrder(order)


def active(web, order, tree):
    """The ties that are inner and those that are outer, for the tree."""
    check_web(web)
    check_order(web, order)
    check_tree(web, tree)
    return _active_of(web, order, tree)


def _active_of(web, order, tree):
    outside = other_ties(web.many, tree)
    # A tie outside joins the pieces into which the tree falls without a tie of it just if that
    # tie is in the ring that it makes with ties of the tree.
    rivals = {tie: _joining(web, without(tree, (tie,)), outside) for tie in tree}
    inner = [tie for tie in tree if _is_earliest(order, tie, rivals[tie])]
    outer = [tie for tie in outside if _is_earliest(order, tie, [one for one in tree if tie in rivals[one]])]
    return tuple(inner), tuple(outer)


def _joining(web, ties, others):
    """Those of the others that join two pieces, if only these ties lead from place to place."""
    at = pieces(web, ties)
    return [tie for tie in others if at[2 * tie] != at[2 * tie + 1]]


def _is_earliest(order, tie, others):
    return all([order.index(tie) < order.index(other) for other in others])


def table(web, order):
    """The sorted list of how many inner and how many outer ties so many trees have."""
    check_web(web)
    check_order(web, order)
    found = {}
    for tree in trees(web):
        inner, outer = _active_of(web, order, tree)
        key = (len(inner), len(outer))
        found[key] = found.get(key, 0) + 1
    return sorted([(key, found[key]) for key in found])


def bracket_by_trees(drawing, order):
    """The sum over all trees of the products of all ties' weights."""
    check_drawing(drawing)
    check_order(drawing.web(), order)
    found = {}
    for tree in trees(drawing.web()):
        inner, outer = _active_of(drawing.web(), order, tree)
        exponent = sum([mark * _power(tie, tree, inner, outer) for tie, mark in enumerate(drawing.marks())])
        sign = -1 if (len(inner) + len(outer)) % 2 else 1
        found[exponent] = found.get(exponent, 0) + sign
    return laurent_of(found)


def _power(tie, tree, inner, outer):
    """The exponent that a tie of mark 1 weighs."""
    if tie in tree:
        return -3 if tie in inner else 1
    return 3 if tie in outer else -1
