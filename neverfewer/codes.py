"""Rows of over and under along cords, drawings out of them, and even numbers."""

from neverfewer.cords import check_directions, cords, directed
from neverfewer.drawings import Drawing
from neverfewer.errors import InvalidRows, NotOne
from neverfewer.signs import signs
from neverfewer.values import is_below, is_list, is_mark, is_word
from neverfewer.webs import MOST_TIES, Web, is_turn

WORDS = ("over", "under")


def rows_of(drawing, directions):
    """The rows of the drawing by the directions."""
    told = signs(drawing, directions)
    return [
        [(end // 4, _word(end, drawing.marks()[end // 4]), told[end // 4]) for end in ends]
        for ends in _gone_through(drawing.web(), directions)
    ]


def _gone_through(web, directions):
    """For each cord the ends by which it comes in, in the sequence of its direction."""
    return [
        ends[:1] + ends[:0:-1] if direction else ends for ends, direction in zip(directed(web, directions), directions)
    ]


def _word(end, mark):
    """How a cord goes that comes in by the end at a tie of the mark."""
    return "over" if (end % 2 == 0) == (mark == 1) else "under"


def are_same_rows(rows, other):
    """Whether two lists of rows are the SAME."""
    return sorted([_least_turn(row) for row in rows]) == sorted([_least_turn(row) for row in other])


def _least_turn(row):
    """The least of what the row becomes by beginning elsewhere."""
    return min([list(row[at:]) + list(row[:at]) for at in range(len(row))], default=[])


def drawing_of(rows):
    """A drawing and directions whose rows are the SAME as these."""
    if not _are_rows(rows):
        raise InvalidRows(rows)
    if len(rows) == 1 and not rows[0]:
        return Drawing(Web(()), ()), (0,)
    marks = _marks_of(rows)
    if marks is None:
        raise InvalidRows(rows)
    ways = [[_end_in(step, marks[step[0]]) for step in row] for row in rows]
    turn = _turn_along(ways, 2 * len(marks))
    if not is_turn(turn):
        raise InvalidRows(rows)
    drawing = Drawing(Web(turn), marks)
    return drawing, _directions_of(drawing.web(), [end for way in ways for end in way])


def _are_rows(value):
    """Whether any value is a list of lists of passes, such that each tie is passed over and under, with one sign."""
    if not is_list(value) or not all([is_list(row) for row in value]):
        return False
    passes = [step for row in value for step in row]
    many = len(passes) // 2
    if many > MOST_TIES or not all([_is_pass(step, many) for step in passes]):
        return False
    told = {(tie, word): sign for tie, word, sign in passes}
    # There are no more ties with words than passes; so if none stands there twice, each stands there once.
    return len(told) == len(passes) and all([told[(tie, "over")] == told[(tie, "under")] for tie in range(many)])


def _is_pass(value, many):
    """Whether any value is a tuple of one of so many ties, a word and a sign."""
    if not isinstance(value, tuple) or len(value) != 3:
        return False
    return is_below(value[0], many) and is_word(value[1], WORDS) and is_mark(value[2])


def _marks_of(rows):
    """Marks by which even and odd ends follow one another along each row; None if there are none."""
    many = sum([len(row) for row in rows]) // 2
    if not rows or not all([len(row) > 0 for row in rows]):
        return None
    pairs = [(row[at - 1], step) for row in rows for at, step in enumerate(row)]
    marks = {0: 1}
    # What hangs together has its marks by one of them; what does not makes no web.
    for _ in range(many):
        for one, two in pairs:
            if one[0] in marks and two[0] not in marks:
                # Over by an even end, and then under by an odd one: the marks are alike.
                marks[two[0]] = marks[one[0]] if one[1] != two[1] else -marks[one[0]]
    if len(marks) < many or not all([_alternate(one, two, marks) for one, two in pairs]):
        return None
    return [marks[tie] for tie in range(many)]


def _alternate(one, two, marks):
    return (marks[one[0]] == marks[two[0]]) == (one[1] != two[1])


def _end_in(step, mark):
    """The end by which a cord comes in that passes the tie so."""
    tie, word, sign = step
    if (word == "over") == (mark == 1):
        return 4 * tie
    return 4 * tie + 1 if sign == mark else 4 * tie + 3


def _turn_along(ways, many):
    """The turn, a tuple of so many darts, whose corners lead from each end on to the next one of its way."""
    turn = [0] * many
    for way in ways:
        for at, end in enumerate(way):
            out = way[at - 1] ^ 2
            # A corner joins an even end with an odd one.
            even, odd = (out, end) if out % 2 == 0 else (end, out)
            turn[even // 2] = odd // 2
    return tuple(turn)


def _directions_of(web, ends):
    """The directions by which the cords come in by these ends."""
    return tuple([0 if cord[0] in ends else 1 for cord in cords(web)])


def even_numbers(web):
    """The list of the even numbers of the ties that have the odd numbers 1, 3, 5, .."""
    found = cords(web)
    if len(found) != 1:
        raise NotOne()
    ties = [end // 4 for end in found[0]]
    return [[at + 1 for at in range(1, len(ties), 2) if ties[at] == tie][0] for tie in ties[::2]]
