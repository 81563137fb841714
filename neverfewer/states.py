"""States of webs, their circles, and the bracket of drawings."""

from neverfewer.cords import check_directions
from neverfewer.drawings import check_drawing
from neverfewer.ends import corner_joins
from neverfewer.errors import InvalidTies, TooMany
from neverfewer.laurent import Laurent, laurent_of
from neverfewer.signs import sum_of_signs
from neverfewer.values import is_ties
from neverfewer.webs import check_web

MOST_TIES = 10


def circles(web, kept):
    """How many circles the state has in which just these ties are kept."""
    check_web(web)
    if not is_ties(kept, web.many):
        raise InvalidTies(kept)
    return _circles_of(corner_joins(web), [tie in kept for tie in range(web.many)])


def _circles_of(joins, is_kept):
    many = 0
    seen = set()
    for end in range(len(joins)):
        if end not in seen:
            many += 1
            while end not in seen:
                # At a kept tie end 4t + 1 is joined with 4t + 2, at one that is left with 4t.
                far = end ^ 3 if is_kept[end // 4] else end ^ 1
                seen.add(end)
                seen.add(far)
                end = joins[far]
    return max(1, many)


def _check_few(drawing):
    if drawing.many > MOST_TIES:
        raise TooMany("ties", MOST_TIES)


def bracket(drawing):
    """The bracket of the drawing."""
    check_drawing(drawing)
    _check_few(drawing)
    return _bracket_of(drawing)


def _bracket_of(drawing):
    loops = _powers(drawing.many)
    told = _states_told(drawing)
    sums = {}
    for (exponent, many), states in told.items():
        sums[many] = sums.get(many, Laurent(0, [])) + laurent_of({exponent: states})
    whole = Laurent(0, [])
    for many in sums:
        whole = whole + sums[many] * loops[many - 1]
    return whole


def _powers(many):
    """What a state is multiplied by: 1, - A ** 2 - A ** -2, and so on to that many times."""
    found = [Laurent(0, [1])]
    for _ in range(many):
        found.append(found[-1] * Laurent(-2, [-1, 0, 0, 0, -1]))
    return found


def _states_told(drawing):
    """How many states have an exponent and a number of circles, by these two."""
    joins, marks = corner_joins(drawing.web()), drawing.marks()
    found = {}
    for state in range(1 << drawing.many):
        is_kept = [state >> tie & 1 == 1 for tie in range(len(marks))]
        exponent = sum([mark if kept else -mark for mark, kept in zip(marks, is_kept)])
        key = (exponent, _circles_of(joins, is_kept))
        found[key] = found.get(key, 0) + 1
    return found


def normed(drawing, directions):
    """The normed bracket of the drawing."""
    check_drawing(drawing)
    check_directions(drawing.web(), directions)
    _check_few(drawing)
    total = sum_of_signs(drawing, directions)
    told = _bracket_of(drawing).shifted(-3 * total)
    return -told if total % 2 else told
