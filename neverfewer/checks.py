"""What is asked of darts, corners, sizes and limits ahead of all else."""

from neverfewer.errors import InvalidCorner, InvalidDart, InvalidLimit, TooMany
from neverfewer.values import is_below
from neverfewer.webs import MOST_TIES

MOST_CHARTS = 40


def check_dart(web, dart):
    """Raises InvalidDart unless it is a dart of the web."""
    if not is_below(dart, 2 * web.many):
        raise InvalidDart(dart)


def is_corner(web, value):
    """Whether any value is a corner of the web; without ties there is one."""
    return is_below(value, max(1, 2 * web.many))


def check_corner(web, corner):
    """Raises InvalidCorner unless it is a corner of the web."""
    if not is_corner(web, corner):
        raise InvalidCorner(corner)


def check_room(many):
    """Raises TooMany if a web of so many ties would be too large."""
    if many > MOST_TIES:
        raise TooMany("ties", MOST_TIES)


def check_limit(limit):
    """Raises InvalidLimit unless it is an INTEGER from 1 to the most charts of a lot that are told."""
    if not is_below(limit, MOST_CHARTS + 1) or limit == 0:
        raise InvalidLimit(limit)
