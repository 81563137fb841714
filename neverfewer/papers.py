"""Lot papers and decisions, and whether any value is one."""

from neverfewer.checks import check_limit
from neverfewer.deeds import webs_behind
from neverfewer.ears import check_block, check_blocks, is_block
from neverfewer.gathered import gathered_by
from neverfewer.lots import brought, made_by_deeds, members_and_steps
from neverfewer.names import carrying_from, carryings, is_carrying, name
from neverfewer.rounds import round_of, way_to
from neverfewer.values import is_below, is_list, is_word
from neverfewer.webs import Web, is_turn

MOST_DEEDS = 200


def lot_paper(web, limit):
    """A lot paper of the block."""
    check_block(web)
    check_limit(limit)
    return _paper_of(web, limit)


def _paper_of(web, limit):
    members, steps = members_and_steps(web, limit)
    told = [[(at, brought(one, members[at])) for at, one in row] for row in steps]
    return ("lot", [member.turn() for member in members], told)


def is_lot_paper(web, value):
    """Whether any value is a lot paper of the block."""
    check_block(web)
    return _is_paper_of(web, value)


def _is_paper_of(web, value):
    if not isinstance(value, tuple) or len(value) != 3 or not is_word(value[0], ("lot",)):
        return False
    turns, steps = value[1], value[2]
    if not is_list(turns) or not is_list(steps) or not turns or len(turns) != len(steps):
        return False
    if not all([is_turn(turn) for turn in turns]) or turns[0] != web.turn():
        return False
    members = [Web(turn) for turn in turns]
    if not all([is_block(member) for member in members]) or not _are_unlike(members):
        return False
    return all([_are_steps(members, at, row) for at, row in enumerate(steps)]) and _are_told_ahead(steps)


def _are_unlike(members):
    return len(set([name(member) for member in members])) == len(members)


def _are_steps(members, at, row):
    """Whether any value tells where each deed leads from the member at this position."""
    if not is_list(row):
        return False
    made = made_by_deeds(members[at])
    return len(row) == len(made) and all([_is_step(members, one, row[k]) for k, one in enumerate(made)])


def _is_step(members, made, value):
    if not isinstance(value, tuple) or len(value) != 2 or not is_below(value[0], len(members)):
        return False
    member = members[value[0]]
    return is_below(value[1], 2 * member.many) and carrying_from(made, member, value[1]) is not None


def _are_told_ahead(steps):
    """Whether each position but the first one is told in the steps at a lesser one."""
    told = [0]
    for at, row in enumerate(steps):
        if at not in told:
            return False
        told.extend([position for position, dart in row])
    return True


def decision(web, other, limit):
    """A decision of the block and the other one."""
    check_blocks(web, other)
    check_limit(limit)
    deeds = _deeds_between(web, other)
    if deeds is None:
        return ("two", _paper_of(web, limit))
    return ("one", deeds, carryings(webs_behind(web, deeds)[-1], other)[0])


def _deeds_between(web, other):
    """Deeds that lead from web to a block alike to the other; None if they are not ONE."""
    deeds, start = gathered_by(web)
    back, end = gathered_by(other)
    found = round_of(start)
    names = [step[0] for step in found]
    if name(end) not in names:
        return None
    at = names.index(name(end))
    # What leads from other to its gathered block undoes itself, called as that block is called here.
    darts = carryings(end, found[at][1])[0]
    return deeds + way_to(found, at) + [_carried(deed, darts) for deed in reversed(back)]


def _carried(deed, darts):
    """The deed past ties as it is called where the darts bring it."""
    word, tie, ties = deed
    return (word, darts[2 * tie] // 2, tuple(sorted([darts[2 * one] // 2 for one in ties])))


def is_decision(web, other, value):
    """Whether any value is a decision of the block and the other one."""
    check_blocks(web, other)
    if not isinstance(value, tuple):
        return False
    if len(value) == 3 and is_word(value[0], ("one",)):
        return _leads_to(web, other, value[1], value[2])
    return len(value) == 2 and is_word(value[0], ("two",)) and _leaves_out(web, other, value[1])


def _leads_to(web, other, deeds, darts):
    if not is_list(deeds) or len(deeds) > MOST_DEEDS:
        return False
    webs = webs_behind(web, deeds)
    return len(webs) > len(deeds) and is_carrying(webs[-1], other, darts)


def _leaves_out(web, other, paper):
    if not _is_paper_of(web, paper):
        return False
    return name(other) not in [name(Web(turn)) for turn in paper[1]]
