"""Rows of turns of parts that lead from a block to one with the same rings."""

from neverfewer.cycles import rotated
from neverfewer.ears import check_blocks
from neverfewer.names import carrying_from, is_carrying
from neverfewer.parts import is_part_of, part_web, parts
from neverfewer.rings import same_rings
from neverfewer.turns import turned
from neverfewer.values import is_list, is_word, other_ties
from neverfewer.webs import behind

MOST_TURNS = 200


def turn_row(web, other):
    """A turn row from the block to the other one; None if their rings are unlike."""
    check_blocks(web, other)
    if not same_rings(web, other):
        return None
    rows = _rows_between(web, other)
    darts = _keeping(_turned_by(web, rows), other)
    if darts is None:
        # One tie alone turned by "a" is as it was; so its rest turned by "a" is all seen from behind.
        rows = rows + [(other_ties(web.many, (0,)), "a")]
        darts = _keeping(_turned_by(web, rows), other)
    return rows, darts


def _turned_by(web, rows):
    """What comes if the parts are turned by their letters, one after the other."""
    for ties, letter in rows:
        web = turned(web, ties, letter)
    return web


def _keeping(web, other):
    """A carrying that brings each dart to a dart of the tie of the same number; None if there is none."""
    for dart in (0, 1):
        darts = carrying_from(web, other, dart)
        if darts is not None and _keeps_ties(darts):
            return darts
    return None


def _keeps_ties(darts):
    return all([to // 2 == dart // 2 for dart, to in enumerate(darts)])


def _rows_between(web, other):
    """Turns of parts without the last tie that lead to the other block, or to it from behind."""
    shared = [ties for ties in parts(web) if 2 <= len(ties) <= web.many - 2 and is_part_of(other, ties)]
    if not shared:
        return _rows_in_line(web, other)
    part, rest = shared[0], other_ties(web.many, shared[0])
    rows = _rows_within(web, other, part) + _rows_within(web, other, rest)
    # Now the part is as it should be, and its rest, but for how the two are put together.
    near = _turned_by(web, rows)
    goals = (other, behind(other))
    if not any([_keeping(near, goal) is not None for goal in goals]):
        letters = [letter for letter in ("a", "b", "c") if any([
            _keeping(turned(near, part, letter), goal) is not None for goal in goals
        ])]
        rows = rows + [(part, letters[0])]
    return [(_without_last(web, ties), letter) for ties, letter in rows]


def _without_last(web, ties):
    """The part, or its rest in its place: turned by a letter it does the same, but for a look from behind."""
    return ties if web.many - 1 not in ties else other_ties(web.many, ties)


def _rows_within(web, other, part):
    """Turns within the part that lead to what the other block has there, or to that from behind."""
    rows = _rows_between(part_web(web, part), part_web(other, part))
    return [(tuple([part[tie] for tie in ties]), letter) for ties, letter in rows]


def _rows_in_line(web, other):
    """The turns between blocks that share no parts of two ties and more with two ties and more outside."""
    # Only in a ring, or in a bunch, the ties can stand in another sequence then.
    row, goal = _line(web), _line(other)
    rows = []
    for at, tie in enumerate(goal):
        upto = row.index(tie) + 1
        if upto > at + 1:
            rows.append((tuple(sorted(row[at:upto])), "c"))
            row = row[:at] + row[at:upto][::-1] + row[upto:]
    return rows


def _line(web):
    """The ties behind the last one, round a ring or in a bunch; none in any other block."""
    last = 2 * web.many - 2
    for cycles, cycle in ((web.faces(), web.face(last)), (web.places(), web.place(last))):
        if len(cycles) == 2:
            return [dart // 2 for dart in rotated(cycle, last)[1:]]
    return []


def is_turn_row(web, other, value):
    """Whether any value is a turn row from the block to the other one."""
    check_blocks(web, other)
    if not isinstance(value, tuple) or len(value) != 2 or not is_list(value[0]) or len(value[0]) > MOST_TURNS:
        return False
    for row in value[0]:
        if not _is_turn(web, row):
            return False
        web = turned(web, row[0], row[1])
    return is_carrying(web, other, value[1]) and _keeps_ties(value[1])


def _is_turn(web, value):
    """Whether any value is a part of the block and a letter."""
    if not isinstance(value, tuple) or len(value) != 2:
        return False
    return is_part_of(web, value[0]) and is_word(value[1], ("a", "b", "c"))
