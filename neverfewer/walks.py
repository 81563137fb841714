"""The rings that ties outside a tree make with its ties."""

from neverfewer.cycles import positions


def closed_way(web, tree, tie):
    """The darts of the ring that the tie makes with ties of the tree, each the first one of its tie on the way.

    The way goes along the tie from its even dart to its odd one, and back by ties of the tree.
    """
    at = positions(web.places())
    steps = [dart for one in tree for dart in (2 * one, 2 * one + 1)]
    ways = [[2 * tie]]
    done = 0
    while at[ways[done][-1] ^ 1] != at[2 * tie]:
        way = ways[done]
        here = way[-1] ^ 1
        ways.extend([way + [dart] for dart in steps if at[dart] == at[here] and dart != here])
        done += 1
    return ways[done]
