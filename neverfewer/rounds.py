"""All gathered blocks of a lot, round which leads and looks from behind go."""

from neverfewer.deeds import webs_behind
from neverfewer.gathered import led_rows
from neverfewer.names import name


def round_of(web):
    """A list of (name, web, position, deeds): all gathered blocks of the lot of a gathered block, no two alike.

    The first one is the block itself; the deeds lead to each other one from the one at the position.
    """
    found = [(name(web), web, 0, [])]
    known = {name(web): True}
    done = 0
    while done < len(found):
        here = found[done][1]
        for deeds in _ways_on(here):
            there = webs_behind(here, deeds)[-1]
            called = name(there)
            if called not in known:
                known[called] = True
                found.append((called, there, done, deeds))
        done += 1
    return found


def _ways_on(web):
    """The deeds of each lead, and the look from behind."""
    return [[("behind",)]] + [[("past", tie, piece) for tie in ties] for ties, piece in led_rows(web)]


def way_to(found, position):
    """The deeds that lead from the first one of those found to the one at the position."""
    deeds = []
    while position > 0:
        called, web, ahead, last = found[position]
        deeds = last + deeds
        position = ahead
    return deeds
