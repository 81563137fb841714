"""Moves that lead back from what moves make of drawings."""

from neverfewer.cycles import behind_turn
from neverfewer.taking import far_rows, first_dart, pair_of_darts
from neverfewer.threes import three_darts


def back(drawing, move):
    """A move that leads from what this one makes to a drawing alike to the drawing."""
    word, many = move[0], drawing.many
    if word in ("loop", "hang"):
        return ("un" + word, many)
    if word in ("double", "split"):
        return ("un" + word, many, many + 1)
    if word == "undouble":
        return _doubling(drawing, move[1:])
    if word == "unsplit":
        return _splitting(drawing, move[1:])
    if word in ("star", "triangle"):
        least = min([dart ^ 1 for dart in three_darts(drawing.web(), move)])
        return ("triangle" if word == "star" else "star", least)
    return _laying_one(drawing, move)


def _laying_one(drawing, move):
    word, tie = move
    dart = first_dart(drawing.web(), word, tie)
    return (word[2:], _corner_ahead(drawing.web(), dart, (tie,)), drawing.marks()[tie])


def _doubling(drawing, ties):
    web, marks = drawing.web(), drawing.marks()
    one, other = pair_of_darts(web, "undouble", ties)
    corner, far = _corner_ahead(web, one ^ 1, ties), _corner_ahead(web, other ^ 1, ties)
    # At one corner, the tie that begins there lies around the other one.
    if corner == far and web.turn()[other] != other ^ 1:
        return ("double", corner, far, marks[ties[1]])
    return ("double", corner, far, marks[ties[0]])


def _splitting(drawing, ties):
    one, other = [_called_behind(row[1:], ties) for row in far_rows(drawing.web(), ties)]
    if not one:
        # Here the first tie hangs at a place alone, and so is the last of the split.
        corner = other[-1] if other else 0
        return ("split", corner, corner, drawing.marks()[ties[1]])
    return ("split", (one + other)[-1], one[-1], drawing.marks()[ties[0]])


def _corner_ahead(web, dart, ties):
    """The corner that is behind the next dart ahead of this one that is not of the ties."""
    ahead = behind_turn(web.turn())
    near = ahead[dart]
    while near // 2 in ties and near != dart:
        near = ahead[near]
    return 0 if near == dart else _called_behind([near], ties)[0]


def _called_behind(darts, ties):
    """The darts as they are called when these ties are taken away."""
    return [dart - 2 * len([tie for tie in ties if 2 * tie < dart]) for dart in darts]
