"""The four ends of each crossing, and how corners join them."""

from neverfewer.cycles import behind_turn


def corner_joins(web):
    """For each end the one to which a corner joins it."""
    turn = web.turn()
    ahead = behind_turn(turn)
    # End 2d is behind dart d, end 2d + 1 ahead of it.
    return [end for dart in range(len(turn)) for end in (2 * turn[dart] + 1, 2 * ahead[dart])]
