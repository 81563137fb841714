"""Moves of drawings: what they are, what they make, and what leads back."""

from neverfewer.backs import back
from neverfewer.drawings import check_drawing
from neverfewer.errors import BadMove, InvalidMoves, Parted, TooMany
from neverfewer.laying import LAYING, is_laying, laying_done, ties_laid
from neverfewer.taking import TAKING, does_part, is_taking, taking_done
from neverfewer.threes import is_three, three_done
from neverfewer.values import is_list, is_word
from neverfewer.webs import MOST_TIES

THREES = ("star", "triangle")


def is_move(drawing, value):
    """Whether any value is a move of the drawing, whether it can be done or not."""
    check_drawing(drawing)
    return _is_move_of(drawing, value)


def _is_move_of(drawing, value):
    if not isinstance(value, tuple) or not value:
        return False
    if is_word(value[0], LAYING):
        return is_laying(drawing, value)
    if is_word(value[0], TAKING):
        return is_taking(drawing, value)
    return is_word(value[0], THREES) and is_three(drawing, value)


def _has_room(drawing, move):
    return move[0] not in LAYING or drawing.many + ties_laid(move[0]) <= MOST_TIES


def _can_be_done(drawing, value):
    """Whether any value is a move of the drawing that can be done."""
    return _is_move_of(drawing, value) and not does_part(drawing, value) and _has_room(drawing, value)


def _done(drawing, move):
    if move[0] in LAYING:
        return laying_done(drawing, move)
    if move[0] in TAKING:
        return taking_done(drawing, move)
    return three_done(drawing, move)


def _check_move(drawing, move):
    check_drawing(drawing)
    if not _is_move_of(drawing, move):
        raise BadMove()
    if does_part(drawing, move):
        raise Parted()
    if not _has_room(drawing, move):
        raise TooMany("ties", MOST_TIES)


def moved(drawing, move):
    """The drawing that the move makes."""
    _check_move(drawing, move)
    return _done(drawing, move)


def moves_done(drawing, moves):
    """The list of the drawing, and of what each move makes."""
    check_drawing(drawing)
    if not is_list(moves):
        raise InvalidMoves(0)
    found = [drawing]
    for at, move in enumerate(moves):
        if not _can_be_done(found[-1], move):
            raise InvalidMoves(at)
        found.append(_done(found[-1], move))
    return found


def small_moves(drawing):
    """The sorted list of the moves that can be done and lay on no ties."""
    check_drawing(drawing)
    many = drawing.many
    one = [(word, tie) for word in ("unloop", "unhang") for tie in range(many)]
    two = [(word, tie, other) for word in ("undouble", "unsplit") for tie in range(many) for other in range(many)]
    three = [(word, dart) for word in THREES for dart in range(2 * many)]
    return sorted([move for move in one + two + three if _can_be_done(drawing, move)])


def undoing(drawing, move):
    """A move that leads back, from what the move makes, to a drawing alike to the drawing."""
    _check_move(drawing, move)
    return back(drawing, move)
