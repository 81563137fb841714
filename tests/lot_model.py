"""A second, slow reading of what DOC.md says of gathered blocks, leads, lots, papers and decisions.

It goes on where model.py ends, and shares no code with the package.
"""

from functools import lru_cache

import model


# Gathered blocks, leads [10], [4a]

def rows_of(turn):
    return model.necklaces(turn) + model.bunches(turn)


def bare_of(pieces):
    return tuple(sorted(piece[0] for piece in pieces if len(piece) == 1))


def is_gathered(turn):
    for pieces in rows_of(turn):
        bare = bare_of(pieces)
        if len(bare) >= 2 and len(pieces) - len(bare) >= 2 and not model.is_part(turn, bare):
            return False
    return True


def leads(turn):
    found = set()
    for pieces in rows_of(turn):
        bare = bare_of(pieces)
        if bare and len(pieces) - len(bare) >= 2:
            for at, piece in enumerate(pieces):
                beside = pieces[at - 1], pieces[(at + 1) % len(pieces)]
                if len(piece) > 1 and any(len(one) == 1 for one in beside):
                    found.add((bare, piece))
    return sorted(found)


def led(turn, bare, piece):
    """The bare ties are led past one by one: always one that stands next to the piece and has not passed it."""
    left = list(bare)
    while left:
        row = [pieces for pieces in rows_of(turn) if piece in pieces and (left[0],) in pieces][0]
        at = row.index(piece)
        # Of two that stand next to it, the one that has passed it is not left.
        near = [one[0] for one in (row[at - 1], row[(at + 1) % len(row)]) if len(one) == 1 and one[0] in left]
        turn = model.flyped(turn, near[0], piece)
        left.remove(near[0])
    return turn


def is_gathering(turn, value):
    if type(value) not in (list, tuple) or len(value) > 40:
        return False
    for deed in value:
        if type(deed) is not tuple or len(deed) != 3:
            return False
        turn = model.deed_done(turn, deed)
        if turn is None:
            return False
    return is_gathered(turn)


# Lots [9], [4b]

@lru_cache(None)
def lot(turn):
    """The names of all blocks to which rows of deeds lead, by all flypes there are."""
    found, todo = {model.name(turn)}, [model.name(turn)]
    while todo:
        here = todo.pop()
        made = [model.flyped(here, tie, ties) for tie, ties in model.flypes(here)] + [model.behind(here)]
        for name in {model.name(one) for one in made} - found:
            found.add(name)
            todo.append(name)
    return tuple(sorted(found))


_is_block = lru_cache(None)(model.is_block)
_name = lru_cache(None)(model.name)


@lru_cache(None)
def made_by_deeds(turn):
    return [model.flyped(turn, tie, ties) for tie, ties in model.little_flypes(turn)] + [model.behind(turn)]


@lru_cache(None)
def brings(turn, other, dart):
    """Whether there is a carrying from the one to the other that brings dart 0 to this dart."""
    return any(row[0] == dart for row in model.carryings(turn, other))


def is_lot_paper(turn, value):
    if type(value) is not tuple or len(value) != 3 or type(value[0]) is not str or value[0] != "lot":
        return False
    members, steps = value[1:]
    if type(members) not in (list, tuple) or type(steps) not in (list, tuple) or len(members) != len(steps):
        return False
    if len(members) == 0 or not all(type(one) is tuple and _is_block_turn(one) for one in members):
        return False
    if members[0] != turn or len({_name(one) for one in members}) != len(members):
        return False
    if not all(_are_steps(members, at, row) for at, row in enumerate(steps)):
        return False
    return all(any(at == step[0] for row in steps[:at] for step in row) for at in range(1, len(members)))


def _is_block_turn(value):
    return all(type(dart) is int for dart in value) and len(value) >= 4 and model.is_turn(value) and (
        _is_block(value))


def _are_steps(members, at, row):
    made = made_by_deeds(members[at])
    if type(row) not in (list, tuple) or len(row) != len(made):
        return False
    for one, step in zip(made, row):
        if type(step) is not tuple or len(step) != 2 or any(type(number) is not int for number in step):
            return False
        if not 0 <= step[0] < len(members) or not brings(one, members[step[0]], step[1]):
            return False
    return True


def is_decision(turn, other, value):
    if type(value) is not tuple or len(value) not in (2, 3) or type(value[0]) is not str:
        return False
    if value[0] == "two" and len(value) == 2:
        return is_lot_paper(turn, value[1]) and model.name(other) not in [model.name(one) for one in value[1][1]]
    if value[0] != "one" or len(value) != 3 or any(type(row) not in (list, tuple) for row in value[1:]):
        return False
    if len(value[1]) > 200:
        return False
    for deed in value[1]:
        turn = model.deed_done(turn, deed)
        if turn is None:
            return False
    return all(type(dart) is int for dart in value[2]) and model.is_carrying(turn, other, list(value[2]))


# Blocks with much to lead, put together from small ones

def put_in(turn, *others):
    """The block with others set in, each for the first tie that stands alone still, from the last one on."""
    for at, other in reversed(list(enumerate(others))):
        if other is not None:
            turn = model.set_in(turn, at, other)
    return turn


def pair(many=2):
    """So many ties beside one another, to be set in for a tie."""
    return model.about(in_a_row(many + 1))


def row(many=2):
    """So many ties in a row, to be set in for a tie."""
    return in_a_row(many + 1)


def necklace(*pieces):
    """A necklace of these pieces: None for a bare tie."""
    return put_in(in_a_row(len(pieces)), *pieces)


def beside(*pieces):
    """A bunch of these pieces."""
    return put_in(model.about(in_a_row(len(pieces))), *pieces)


def in_a_row(many):
    """The ring of so many ties, called as they stand."""
    return model.turn_of([(2 * at + 1, (2 * at + 2) % (2 * many)) for at in range(many)])


def to_set_in(turn):
    """The block with its first tie called last, so that this one is what the others are set in for."""
    return model.called(turn, [(dart - 2) % len(turn) for dart in range(len(turn))])


def two_by_three():
    """A row of two ties beside a row of three ties, to be set in for a tie: [4a4]."""
    return to_set_in(beside(None, in_a_row(3), in_a_row(4)))


def tall(many=2):
    """So many ties in a row beside one tie, to be set in for a tie of a necklace."""
    return to_set_in(beside(None, None, row(many)))


def wide(many=2):
    """So many ties beside one another in a row with one tie, to be set in for a tie of a bunch."""
    return to_set_in(necklace(None, None, pair(many)))


def pair_by_three():
    """Two ties beside one another in a row with three, to be set in for a tie of a bunch."""
    return to_set_in(necklace(None, pair(2), pair(3)))
