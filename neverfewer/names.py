"""Webs called otherwise: turns read from darts, names, and carryings."""

from neverfewer.checks import check_dart
from neverfewer.cycles import called_turn
from neverfewer.errors import InvalidDarts
from neverfewer.values import are_all_below, is_list
from neverfewer.webs import Web, check_web


def _darts_from(turn, dart):
    """The darts in the sequence in which they are called from the dart on."""
    read = [dart, dart ^ 1]
    is_read = [False] * len(turn)
    is_read[dart] = is_read[dart ^ 1] = True
    done = 0
    while done < len(read):
        follower = turn[read[done]]
        if not is_read[follower]:
            is_read[follower] = is_read[follower ^ 1] = True
            read.extend([follower, follower ^ 1])
        done += 1
    return read


def _numbers_from(turn, dart):
    """For each dart how it is called from the dart on."""
    numbers = [0] * len(turn)
    for number, one in enumerate(_darts_from(turn, dart)):
        numbers[one] = number
    return numbers


def _read_from(turn, dart):
    return called_turn(turn, _numbers_from(turn, dart))


def turn_from(web, dart):
    """The turn read from the dart."""
    check_web(web)
    check_dart(web, dart)
    return _read_from(web.turn(), dart)


def name(web):
    """The NAME of the web: the least of the turns that are read from its darts."""
    check_web(web)
    turn = web.turn()
    return min([_read_from(turn, dart) for dart in range(len(turn))], default=())


def carrying_from(web, other, dart):
    """The carrying from web to other that brings dart 0 to the dart; None if there is none."""
    check_web(web)
    check_web(other)
    check_dart(other, dart)
    if web.many != other.many or _read_from(web.turn(), 0) != _read_from(other.turn(), dart):
        return None
    there = _darts_from(other.turn(), dart)
    return [there[number] for number in _numbers_from(web.turn(), 0)]


def carryings(web, other):
    """The sorted list of all carryings from web to other."""
    check_web(web)
    check_web(other)
    if other.many == 0:
        return [[]] if web.many == 0 else []
    found = [carrying_from(web, other, dart) for dart in range(2 * other.many)]
    return [carrying for carrying in found if carrying is not None]


def are_alike(web, other):
    """Whether the webs are ALIKE."""
    check_web(web)
    check_web(other)
    return name(web) == name(other)


def is_carrying(web, other, value):
    """Whether any value is a carrying from web to other."""
    check_web(web)
    check_web(other)
    return is_calling(web, value) and called_turn(web.turn(), value) == other.turn()


def is_calling(web, value):
    """Whether any value tells for each dart a dart, so that other ends stay other ends."""
    if not is_list(value) or not are_all_below(value, 2 * web.many):
        return False
    return all([value[dart ^ 1] == value[dart] ^ 1 for dart in range(len(value))])


def called(web, darts):
    """The web called by the list."""
    check_web(web)
    if not is_calling(web, darts):
        raise InvalidDarts(darts)
    return Web(called_turn(web.turn(), darts))
