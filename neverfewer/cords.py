"""Cords of webs, their directions, and the ends by which they come in."""

from neverfewer.ends import corner_joins
from neverfewer.errors import InvalidDirections
from neverfewer.values import are_below
from neverfewer.webs import check_tie, check_web


def cords(web):
    """The sorted list of the cords."""
    check_web(web)
    joins = corner_joins(web)
    found = []
    seen = set()
    for end in range(len(joins)):
        if end not in seen:
            cord = _cord_from(joins, end)
            found.append(cord)
            for one in cord:
                seen.add(one)
                seen.add(one ^ 2)
    return found or [()]


def _cord_from(joins, end):
    """The ends by which the cord comes in that comes in by this one."""
    cord = [end]
    while joins[cord[-1] ^ 2] != end:
        cord.append(joins[cord[-1] ^ 2])
    return tuple(cord)


def is_directions(web, value):
    """Whether any value is DIRECTIONS of the web."""
    check_web(web)
    return isinstance(value, tuple) and len(value) == len(cords(web)) and are_below(value, 2)


def check_directions(web, directions):
    """Raises InvalidDirections unless they are DIRECTIONS of the web."""
    if not is_directions(web, directions):
        raise InvalidDirections(directions)


def directed(web, directions):
    """For each cord, in its direction, the ends by which it comes in."""
    return [
        [end ^ 2 for end in cord] if direction else list(cord) for cord, direction in zip(cords(web), directions)
    ]


def entries(web, directions):
    """For each tie the rising tuple of the two ends by which it is entered."""
    ends = sorted([end for cord in directed(web, directions) for end in cord])
    return [(ends[2 * tie], ends[2 * tie + 1]) for tie in range(web.many)]


def entered(web, directions, tie):
    """The rising tuple of the two ends by which the tie is entered."""
    check_web(web)
    check_directions(web, directions)
    check_tie(web, tie)
    return entries(web, directions)[tie]
