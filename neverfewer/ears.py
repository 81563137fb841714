"""Blocks, how they are built up from the ring of two ties, and papers of that."""

from neverfewer.checks import is_corner
from neverfewer.cycles import rotated
from neverfewer.edits import are_facing, laid, shrunk, stretched, taken
from neverfewer.errors import InvalidBuild, NotBlock, NotChart, TooMany
from neverfewer.joints import joints, shares
from neverfewer.names import is_carrying
from neverfewer.values import are_below, is_below, is_list, is_ties, is_word, other_ties
from neverfewer.webs import MOST_TIES, Web, check_web, is_chart

FIRST_TURN = (2, 3, 0, 1)
MOST_ROWS = 12


def is_block(web):
    """Whether the web is a block."""
    check_web(web)
    # Beside other ties a loop or a bridge stands at a place that parts the web.
    return web.many >= 2 and not joints(web)


def check_block(web):
    """Raises InvalidWeb unless it is a Web, NotBlock unless it is a block."""
    if not is_block(web):
        raise NotBlock()


def check_blocks(web, other):
    """Raises InvalidWeb unless both are Webs, then NotBlock unless both are blocks."""
    check_web(web)
    check_web(other)
    check_block(web)
    check_block(other)


def _check_chart(web):
    """Raises InvalidWeb unless it is a Web, NotChart unless it is a chart."""
    if not is_chart(web):
        raise NotChart()


def _is_row(web, value):
    """Whether any value is a row that can be done to the web."""
    if not isinstance(value, tuple):
        return False
    if len(value) == 2 and is_word(value[0], ("stretch",)):
        return is_below(value[1], web.many)
    if len(value) == 3 and is_word(value[0], ("lay",)):
        return _can_lay(web, value[1], value[2])
    return False


def _can_lay(web, corner, other):
    if not is_corner(web, corner) or not is_corner(web, other):
        return False
    return are_facing(web, corner, other) and other not in web.place(corner)


def _row_done(web, row):
    if row[0] == "stretch":
        return stretched(web, row[1])
    return laid(web, row[1], row[2])


def _rows_done(rows):
    """The web that the rows lead to, and how many of them could be done."""
    web = Web(FIRST_TURN)
    for done, row in enumerate(rows):
        if not _is_row(web, row):
            return web, done
        web = _row_done(web, row)
    return web, len(rows)


def build(rows):
    """The web that the rows build up."""
    if not is_list(rows):
        raise InvalidBuild(0)
    first = rows[:MOST_ROWS]
    web, done = _rows_done(first)
    if done < len(first):
        raise InvalidBuild(done)
    if len(rows) > MOST_ROWS:
        raise TooMany("ties", MOST_TIES)
    return web


def block_paper(web):
    """A block paper of the chart."""
    _check_chart(web)
    parting = joints(web)
    if parting:
        return ("parted", parting[0], shares(web, parting[0])[0])
    rows, darts = _built_like(web)
    return ("block", rows, darts)


def _built_like(web):
    """Rows, and darts that carry what they build up to the block."""
    steps = []
    while web.many > 2:
        step = _step_down(web)
        steps.append((web, step))
        web = _stepped_down(web, step)
    rows, darts = [], [0, 1, web.turn()[0], web.turn()[0] ^ 1]
    for above, step in reversed(steps):
        row, darts = _row_back(above, step, darts)
        rows.append(row)
    return rows, darts


def _step_down(web):
    """A tie to be shrunk or to be taken, such that a block is left."""
    for place in web.places():
        if len(place) == 2:
            return ("stretch", place)
    # Where each place has three darts or more, some tie can be taken.
    free = [tie for tie in range(web.many) if is_block(taken(web, tie))]
    return ("lay", free[0])


def _stepped_down(web, step):
    if step[0] == "stretch":
        return shrunk(web, step[1][1] // 2)
    return taken(web, step[1])


def _row_back(web, step, darts):
    """The row that leads back up to the web, and the darts that carry what it makes to the web."""
    if step[0] == "stretch":
        return _stretch_back(step[1], darts)
    return _laid_back(web, step[1], darts)


def _called_up(darts, tie):
    """The darts as they were called before the tie was gone."""
    return [dart + 2 if dart >= 2 * tie else dart for dart in darts]


def _stretch_back(place, darts):
    one, gone = place
    up = _called_up(darts, gone // 2)
    at = min(up.index(one), up.index(one ^ 1))
    # The tie that was left has its even dart either where it stood, or where the tie that is
    # gone had its far end: then it is that tie that is split by the new place.
    if up[at] == one:
        up[at], up[at + 1] = gone ^ 1, gone
        return ("stretch", at // 2), up + [one, one ^ 1]
    return ("stretch", at // 2), up + [gone, gone ^ 1]


def _laid_back(web, tie, darts):
    up = _called_up(darts, tie)
    ahead = [rotated(web.place(dart), dart)[-1] for dart in (2 * tie, 2 * tie + 1)]
    return ("lay", up.index(ahead[0]), up.index(ahead[1])), up + [2 * tie, 2 * tie + 1]


def is_block_paper(web, value):
    """Whether any value is a block paper of the chart."""
    _check_chart(web)
    if not isinstance(value, tuple) or len(value) != 3:
        return False
    if is_word(value[0], ("block",)):
        return _is_built_like(web, value[1], value[2])
    return is_word(value[0], ("parted",)) and _is_parted(web, value[1], value[2])


def _is_built_like(web, rows, darts):
    if not is_list(rows) or len(rows) > MOST_ROWS:
        return False
    built, done = _rows_done(rows)
    return done == len(rows) and is_carrying(built, web, darts)


def _is_parted(web, place, ties):
    if not _is_place(web, place) or not is_ties(ties, web.many):
        return False
    # Where the ties are none or all, no place has darts of both.
    return _places_shared(web, ties, other_ties(web.many, ties)) == [place]


def _is_place(web, value):
    """Whether any value is a place, as it is told."""
    return isinstance(value, tuple) and are_below(value, 2 * web.many) and value in web.places()


def _places_shared(web, ties, others):
    """The places at which stand darts of these ties as well as darts of the others."""
    return [
        place for place in web.places()
        if any([dart // 2 in ties for dart in place]) and any([dart // 2 in others for dart in place])
    ]
