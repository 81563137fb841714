"""Lots of blocks: the names of all to which deeds lead."""

from neverfewer.checks import check_limit
from neverfewer.ears import check_block
from neverfewer.errors import TooMany
from neverfewer.flypes import flype_done, little_flypes
from neverfewer.names import carrying_from, name
from neverfewer.webs import behind


def lot(web, limit):
    """The sorted list of the names of the lot."""
    check_block(web)
    check_limit(limit)
    return sorted([name(member) for member in members_and_steps(web, limit)[0]])


def members_and_steps(web, limit):
    """The members of a lot paper, as webs, and where each of their deeds leads, as positions with webs."""
    members, steps = [web], []
    at = {name(web): 0}
    while len(steps) < len(members):
        row = made_by_deeds(members[len(steps)])
        for one in row:
            called = name(one)
            if called not in at:
                if len(members) == limit:
                    raise TooMany("charts", limit)
                at[called] = len(members)
                members.append(one)
        steps.append([(at[name(one)], one) for one in row])
    return members, steps


def made_by_deeds(web):
    """What each little flype makes, in their sorted sequence, and the block from behind, last."""
    return [flype_done(web, tie, ties) for tie, ties in little_flypes(web)] + [behind(web)]


def brought(web, other):
    """A dart to which dart 0 is brought by a carrying from web to an other one that is alike to it."""
    darts = [dart for dart in range(2 * web.many) if carrying_from(web, other, dart) is not None]
    return darts[0]
