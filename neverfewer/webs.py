"""Webs on a ball, by their turns, and what they are from their other sides."""

from neverfewer.cycles import about_turn, behind_turn, cycle_of, cycles_of, positions
from neverfewer.errors import InvalidDart, InvalidTie, InvalidTurn, InvalidWeb
from neverfewer.values import are_all_below, is_below

MOST_TIES = 14


class Web:
    """A web, which never changes."""

    def __init__(self, turn):
        if not is_turn(turn):
            raise InvalidTurn(turn)
        self._turn = tuple(turn)

    def turn(self):
        """The turn, a tuple."""
        return self._turn

    def places(self):
        """The sorted list of the places."""
        return cycles_of(self._turn)

    def faces(self):
        """The sorted list of the faces."""
        return cycles_of(about_turn(self._turn))

    def place(self, dart):
        """The place that has the dart."""
        return _told_from_least(self._turn, dart)

    def face(self, dart):
        """The face that has the dart."""
        return _told_from_least(about_turn(self._turn), dart)

    @property
    def many(self):
        """How many ties the web has."""
        return len(self._turn) // 2

    def __eq__(self, other):
        return isinstance(other, Web) and self._turn == other._turn


def _told_from_least(turn, dart):
    if not is_below(dart, len(turn)):
        raise InvalidDart(dart)
    return cycle_of(turn, min(cycle_of(turn, dart)))


def is_turn(value):
    """Whether any value is the turn of a web."""
    if not isinstance(value, tuple) or len(value) > 2 * MOST_TIES or len(value) % 2 == 1:
        return False
    return are_all_below(value, len(value)) and _is_in_one_piece(value) and _is_on_a_ball(value)


def _is_in_one_piece(turn):
    reached = [0] if turn else []
    done = 0
    while done < len(reached):
        last = reached[done]
        for dart in (last ^ 1, turn[last]):
            if dart not in reached:
                reached.append(dart)
        done += 1
    return len(reached) == len(turn)


def _is_on_a_ball(turn):
    return len(cycles_of(turn)) + len(cycles_of(about_turn(turn))) == len(turn) // 2 + 2


def check_web(web):
    """Raises InvalidWeb unless it is a Web."""
    if not isinstance(web, Web):
        raise InvalidWeb(web)


def check_tie(web, tie):
    """Raises InvalidTie unless it is a tie of the web."""
    if not is_below(tie, web.many):
        raise InvalidTie(tie)


def behind(web):
    """The web from behind."""
    check_web(web)
    return Web(behind_turn(web.turn()))


def about(web):
    """The web turned about."""
    check_web(web)
    return Web(about_turn(web.turn()))


def is_loop(web, tie):
    """Whether both darts of the tie are in one place."""
    check_web(web)
    check_tie(web, tie)
    return 2 * tie + 1 in web.place(2 * tie)


def is_bridge(web, tie):
    """Whether both darts of the tie are in one face."""
    check_web(web)
    check_tie(web, tie)
    return 2 * tie + 1 in web.face(2 * tie)


def is_chart(web):
    """Whether the web has two ties at least, and no loop and no bridge."""
    check_web(web)
    return web.many >= 2 and not _has_tie_within(web.places()) and not _has_tie_within(web.faces())


def _has_tie_within(cycles):
    at = positions(cycles)
    return any([at[dart] == at[dart ^ 1] for dart in range(len(at))])
