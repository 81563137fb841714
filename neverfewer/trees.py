"""Trees of webs."""

from itertools import combinations

from neverfewer.errors import InvalidTies, TooMany
from neverfewer.pieces import pieces
from neverfewer.values import is_ties
from neverfewer.webs import check_web

MOST_TREES = 400


def trees(web):
    """The sorted list of all trees of the web."""
    check_web(web)
    found = all_trees(web)
    if len(found) > MOST_TREES:
        raise TooMany("trees", MOST_TREES)
    return found


def all_trees(web):
    """The sorted list of all trees, however many there are."""
    return [ties for ties in _subsets(web.many, len(web.places()) - 1) if _leads_everywhere(web, ties)]


def _subsets(many, size):
    return list(combinations(range(many), size))


def _leads_everywhere(web, ties):
    """Whether these ties, one fewer than the places, lead from each place to each other one."""
    return len(set(pieces(web, ties))) <= 1


def trees_many(web):
    """How many trees the web has."""
    check_web(web)
    return len(all_trees(web))


def is_tree_of(web, value):
    """Whether any value is a tree of the web."""
    return is_ties(value, web.many) and len(value) == len(web.places()) - 1 and _leads_everywhere(web, value)


def check_tree(web, tree):
    """Raises InvalidTies unless the ties are a tree of the web."""
    if not is_tree_of(web, tree):
        raise InvalidTies(tree)
