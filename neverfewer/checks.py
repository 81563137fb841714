"""What is asked of darts, corners and sizes of webs ahead of all else."""

from neverfewer.errors import InvalidCorner, InvalidDart, TooMany
from neverfewer.values import is_below
from neverfewer.webs import MOST_TIES


def check_dart(web, dart):
    """Raises InvalidDart unless it is a dart of the web."""
    if not is_below(dart, 2 * web.many):
        raise InvalidDart(dart)


def is_corner(web, value):
    """Whether any value is a corner of the web; without ties there is one."""
    return is_below(value, max(1, 2 * web.many))


def check_corner(web, corner):
    """Raises InvalidCorner unless it is a corner of the web."""
    if not is_corner(web, corner):
        raise InvalidCorner(corner)


def check_room(many):
    """Raises TooMany if a web of so many ties would be too large."""
    if many > MOST_TIES:
        raise TooMany("ties", MOST_TIES)
