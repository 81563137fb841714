"""Flypes of blocks, and what they make."""

from neverfewer.cycles import backward, changed, turn_of
from neverfewer.ears import check_block
from neverfewer.errors import NotFlype
from neverfewer.parts import check_part, inner_places, is_part_of, parts, runs_of
from neverfewer.values import other_ties, without
from neverfewer.webs import Web, check_tie


def is_flype(web, tie, value):
    """Whether the tie and any value are a flype of the block."""
    check_block(web)
    check_tie(web, tie)
    return is_flype_of(web, tie, value)


def is_flype_of(web, tie, value):
    """Whether the tie and any value are a flype of a web that is known to be a block."""
    if not is_part_of(web, value) or tie in value:
        return False
    return is_part_of(web, _with(value, tie))


def _with(ties, tie):
    return tuple(sorted(ties + (tie,)))


def flypes(web):
    """The sorted list of all flypes of the block."""
    known = {ties: True for ties in parts(web)}
    return sorted([
        (tie, ties) for ties in known for tie in other_ties(web.many, ties) if _with(ties, tie) in known
    ])


def little_flypes(web):
    """The sorted list of the flypes that are little."""
    found = flypes(web)
    within = [[ties for one, ties in found if one == tie] for tie in range(web.many)]
    return [(tie, ties) for tie, ties in found if len(ties) >= 2 and _is_least(ties, within[tie])]


def _is_least(ties, others):
    """Whether none of the others lies within the ties, but these themselves."""
    return not any([other != ties and not without(other, ties) for other in others])


def flyped(web, tie, ties):
    """The web that the flype makes."""
    check_block(web)
    check_tie(web, tie)
    check_part(web, ties)
    if not is_flype_of(web, tie, ties):
        raise NotFlype(tie, ties)
    return flype_done(web, tie, ties)


def flype_done(web, tie, ties):
    """The web that what is known to be a flype makes."""
    runs = runs_of(web, ties)
    met = [(dart, run) for dart in (2 * tie, 2 * tie + 1) for run in runs if dart in web.place(run[0])]
    # In a row the tie meets the part at one end, beside it at both.
    if len(met) == 1:
        places = _row_places(web, met[0][0], met[0][1], _other_run(runs, met[0][1]))
    else:
        ahead, near = [pair for pair in met if web.turn()[pair[0]] == pair[1][0]][0]
        places = _beside_places(web, ahead, near, _other_run(runs, near))
    inner = inner_places(web, ties)
    return Web(turn_of([backward(place) if place in inner else place for place in places]))


def _other_run(runs, run):
    return runs[1] if run == runs[0] else runs[0]


def _row_places(web, dart, near, far):
    """The places behind the flype, inner ones still as they were, if the dart stands at the end near."""
    place = web.place(dart)
    others = [one for one in web.places() if one != place]
    changes = [((dart ^ 1,), backward(near)), (far, (dart,))]
    return changed(others, changes) + [backward(far) + (dart ^ 1,)]


def _beside_places(web, dart, near, far):
    """The places behind the flype, inner ones still as they were, if the dart stands just ahead of near."""
    here = ((dart,) + near, backward(far) + (dart,))
    there = (far + (dart ^ 1,), (dart ^ 1,) + backward(near))
    return changed(web.places(), [here, there])
