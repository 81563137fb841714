"""Gathered blocks, the gatherings that lead to them, and leads from one to an other."""

from neverfewer.deeds import webs_behind
from neverfewer.ears import check_block
from neverfewer.errors import NotGathered, NotLead
from neverfewer.flypes import flype_done
from neverfewer.necklaces import bunches, necklaces
from neverfewer.values import is_list, is_ties

MOST_DEEDS = 40


def is_gathered(web):
    """Whether the block is gathered."""
    check_block(web)
    return _step(web) is None


def gathering(web):
    """Deeds that lead to a gathered block."""
    check_block(web)
    return gathered_by(web)[0]


def gathered_by(web):
    """Deeds, and the gathered block to which they lead from what is known to be a block."""
    deeds = []
    step = _step(web)
    while step is not None:
        tie, ties = step
        deeds.append(("past", tie, ties))
        web = flype_done(web, tie, ties)
        step = _step(web)
    return deeds, web


def is_gathering(web, value):
    """Whether any value is a gathering of the block."""
    check_block(web)
    if not is_list(value) or len(value) > MOST_DEEDS or any([deed == ("behind",) for deed in value]):
        return False
    webs = webs_behind(web, value)
    return len(webs) > len(value) and _step(webs[-1]) is None


def _rows(web):
    """All necklaces and bunches."""
    return necklaces(web) + bunches(web)


def _is_bare(piece):
    return len(piece) == 1


def _starts(pieces):
    """The positions of the bare ties that stand behind a piece that is not bare."""
    return [at for at, piece in enumerate(pieces) if _is_bare(piece) and not _is_bare(pieces[at - 1])]


def _step(web):
    """A tie, and the ties past which it comes to stand beside bare ones; None if the block is gathered."""
    for pieces in _rows(web):
        if len(_starts(pieces)) >= 2:
            # The ties that stand with the least one stay, and each other one is led to them but once,
            # past all that is between.
            at = pieces.index(min([piece for piece in pieces if _is_bare(piece)]))
            round_on = pieces[at:] + pieces[:at]
            next_at = [start for start in _starts(round_on) if start > 0][0]
            between = [piece for piece in round_on[:next_at] if not _is_bare(piece)]
            return round_on[next_at][0], tuple(sorted([tie for piece in between for tie in piece]))
    return None


def led_rows(web):
    """For each lead of a gathered block its bare ties, the nearest first, and its piece."""
    found = []
    for pieces in _rows(web):
        for at in _starts(pieces):
            round_on = pieces[at:] + pieces[:at]
            ties = [piece[0] for piece in round_on if _is_bare(piece)]
            others = [piece for piece in round_on if not _is_bare(piece)]
            if len(others) >= 2:
                found.append((ties, others[-1]))
                found.append((ties[::-1], others[0]))
    return found


def leads(web):
    """The sorted list of the leads of the gathered block."""
    _check_gathered(web)
    return sorted([(tuple(sorted(ties)), piece) for ties, piece in led_rows(web)])


def _check_gathered(web):
    if not is_gathered(web):
        raise NotGathered()


def led(web, bare, piece):
    """The web that the lead makes."""
    _check_gathered(web)
    rows = [ties for ties, one in led_rows(web) if one == piece and tuple(sorted(ties)) == bare]
    if not is_ties(bare, web.many) or not is_ties(piece, web.many) or not rows:
        raise NotLead(bare, piece)
    for tie in rows[0]:
        web = flype_done(web, tie, piece)
    return web
