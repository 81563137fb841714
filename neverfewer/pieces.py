"""Pieces into which the places of a web fall."""

from neverfewer.cycles import positions


def pieces(web, ties):
    """For each dart the piece in which its place is, if only these ties lead from place to place."""
    at = positions(web.places())
    for tie in ties:
        one, other = at[2 * tie], at[2 * tie + 1]
        at = [one if piece == other else piece for piece in at]
    return at
