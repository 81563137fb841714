"""Flows of webs, and their tables."""

from neverfewer.errors import TooMany
from neverfewer.trees import check_tree, is_tree_of
from neverfewer.values import other_ties
from neverfewer.walks import closed_way
from neverfewer.webs import check_web

MOST_RANK = 6


def is_tree(web, value):
    """Whether any value is a tree of the web."""
    check_web(web)
    return is_tree_of(web, value)


def flow_rows(web, tree):
    """The list of the rows of the ties outside the tree."""
    check_web(web)
    check_tree(web, tree)
    return [_row(web, closed_way(web, tree, tie)) for tie in other_ties(web.many, tree)]


def _row(web, way):
    """1 at each tie along which the way goes as it leads, -1 where backward."""
    row = [0] * web.many
    for dart in way:
        row[dart // 2] = -1 if dart % 2 else 1
    return row


def flow_table(web, tree):
    """The flow table of the tree."""
    rows = flow_rows(web, tree)
    if len(rows) > MOST_RANK:
        raise TooMany("rank", MOST_RANK)
    return [[sum([x * y for x, y in zip(row, column)]) for column in rows] for row in rows]
