"""Rows of regions, and the second polynomial."""

from neverfewer.cords import check_directions, entries
from neverfewer.cycles import positions
from neverfewer.drawings import check_drawing
from neverfewer.laurent import Laurent
from neverfewer.tables import determinant

# In a row of regions the numbers are together 4 at most, without their signs; so in a determinant of 14 rows
# no number at a power is more than 4 ** 14, which is much less than half of this (2 ** 40).
BASE = 1099511627776


def region_rows(drawing, directions):
    """The list of the rows of all ties: for each region (a, b), which stands for a + b T."""
    check_drawing(drawing)
    check_directions(drawing.web(), directions)
    places, faces = drawing.web().places(), drawing.web().faces()
    place_at, face_at = positions(places), positions(faces)
    rows = []
    for tie, pair in enumerate(entries(drawing.web(), directions)):
        row = [(0, 0)] * (len(places) + len(faces))
        out = _end_out_below(pair, drawing.marks()[tie])
        for turn, (plain, power) in enumerate([(0, 1), (0, -1), (1, 0), (-1, 0)]):
            at = _region_behind(4 * tie + (out + turn) % 4, place_at, face_at, len(places))
            row[at] = (row[at][0] + plain, row[at][1] + power)
        rows.append(row)
    return rows


def _end_out_below(pair, mark):
    """The end by which the cord that goes under goes out, of a tie that is entered by this pair of ends."""
    odd = 1 if mark == 1 else 0
    return [end ^ 2 for end in pair if end % 2 == odd][0]


def _region_behind(end, place_at, face_at, many):
    """The position, among the regions, of the one that lies behind the end at its crossing."""
    # Behind an even end lies the place of its dart, behind the next, odd one the face that has this dart.
    return place_at[end // 2] if end % 2 == 0 else many + face_at[end // 2]


def second(drawing, directions):
    """The second polynomial."""
    rows = region_rows(drawing, directions)
    if not rows:
        return Laurent(0, [1])
    web = drawing.web()
    places = web.places()
    gone = (positions(places)[0], len(places) + positions(web.faces())[web.turn()[0]])
    left = [[row[at] for at in range(len(row)) if at not in gone] for row in rows]
    numbers = _numbers_of(determinant([[plain + power * BASE for plain, power in row] for row in left]))
    found = Laurent(0, numbers)
    found = found.shifted(-found.least)
    return found if found.at(0) > 0 else -found


def _numbers_of(value):
    """The numbers by which powers of BASE are multiplied in the value, each less than half of it."""
    numbers = []
    while value != 0:
        number = (value + BASE // 2) % BASE - BASE // 2
        numbers.append(number)
        value = (value - number) // BASE
    return numbers
