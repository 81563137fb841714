"""Parts of blocks, their ends and runs, part webs, and webs set in for ties."""

from neverfewer.checks import check_room
from neverfewer.cycles import behind_turn, changed, rotated, ties_called, turn_of
from neverfewer.ears import check_block
from neverfewer.errors import InvalidTies
from neverfewer.lunes import lunes_of
from neverfewer.values import is_ties, other_ties
from neverfewer.webs import Web, check_tie


def is_part(web, value):
    """Whether any value is a part of the block."""
    check_block(web)
    return is_part_of(web, value)


def is_part_of(web, value):
    """Whether any value is a part of a web that is known to be a block."""
    if not is_ties(value, web.many):
        return False
    last = _last_darts(web, value)
    return len(last) == 2 and last[1] not in web.place(last[0])


def _last_darts(web, ties):
    """The darts of the ties that are followed by a dart that is not theirs."""
    turn = web.turn()
    own = [dart for tie in ties for dart in (2 * tie, 2 * tie + 1)]
    return [dart for dart in own if turn[dart] // 2 not in ties]


def check_part(web, ties):
    """Raises InvalidTies unless the ties are a part of the block."""
    if not is_part_of(web, ties):
        raise InvalidTies(ties)


def parts(web):
    """The sorted list of all parts of the block."""
    check_block(web)
    return sorted([part for lunes in lunes_of(web) for part in _rows_of_lunes(lunes)])


def _rows_of_lunes(lunes):
    """The ties of each row of lunes that follow one another, but for all of them."""
    around = lunes + lunes
    rows = [around[at:at + many] for at in range(len(lunes)) for many in range(1, len(lunes))]
    return [tuple(sorted([tie for lune in row for tie in lune])) for row in rows]


def ends(web, ties):
    """The sorted list of the two ends of the part."""
    check_block(web)
    check_part(web, ties)
    return sorted([web.place(dart) for dart in _last_darts(web, ties)])


def runs(web, ties):
    """The sorted list of the two runs of the part."""
    check_block(web)
    check_part(web, ties)
    return runs_of(web, ties)


def runs_of(web, ties):
    """The sorted list of the two runs of what is known to be a part."""
    ahead = behind_turn(web.turn())
    found = []
    for last in _last_darts(web, ties):
        run = [last]
        while ahead[run[0]] // 2 in ties:
            run.insert(0, ahead[run[0]])
        found.append(tuple(run))
    return sorted(found)


def rest(web, ties):
    """The rest of the part."""
    check_block(web)
    check_part(web, ties)
    return other_ties(web.many, ties)


def inner_places(web, ties):
    """The places that have darts of the ties alone."""
    return [place for place in web.places() if all([dart // 2 in ties for dart in place])]


def part_web(web, ties):
    """The part web of the part."""
    check_block(web)
    check_part(web, ties)
    one, other = runs_of(web, ties)
    # The further tie is called like none of the web until all ties are called anew.
    further = 2 * web.many
    places = inner_places(web, ties) + [one + (further,), other + (further + 1,)]
    return Web(turn_of(ties_called(places, ties + (web.many,))))


def set_in(web, tie, other):
    """The web that comes if the other one is set in for the tie."""
    check_block(web)
    check_tie(web, tie)
    check_block(other)
    check_room(web.many + other.many - 2)
    many = web.many + other.many
    gone = 2 * many - 2
    others = [tuple([dart + 2 * web.many for dart in place]) for place in other.places()]
    further = [place for place in others if gone not in place and gone + 1 not in place]
    changes = [((2 * tie + side,), _behind_in(others, gone + side)) for side in (0, 1)]
    places = changed(web.places(), changes) + further
    return Web(turn_of(ties_called(places, other_ties(many, (tie, many - 1)))))


def _behind_in(places, dart):
    """The other darts at the place of the dart, from the one behind it on."""
    return [rotated(place, dart)[1:] for place in places if dart in place][0]
