"""Invariants of tables, and groups of drawings."""

from neverfewer.cycles import positions
from neverfewer.drawings import check_drawing
from neverfewer.smiths import diagonal_of
from neverfewer.tables import check_table, determinant, is_square, table_times


def invariants(table):
    """The list of the invariants of the table."""
    check_table(table)
    return [number for number in diagonal_of(table)[0] if number != 1]


def smith(table):
    """Reversible tables left and right, such that left table right has the full row at i, i, and 0 elsewhere."""
    check_table(table)
    numbers, left, right = diagonal_of(table)
    return left, right


def is_smith(table, value):
    """Whether any value is a tuple of two such tables."""
    check_table(table)
    if not isinstance(value, tuple) or len(value) != 2:
        return False
    if not all([_is_reversible(one, len(table)) for one in value]):
        return False
    told = table_times(table_times(value[0], table), value[1])
    numbers = diagonal_of(table)[0]
    return told == [[number if at == row else 0 for at in range(len(numbers))] for row, number in enumerate(numbers)]


def _is_reversible(value, many):
    """Whether any value is a reversible table of so many lists."""
    return is_square(value, many) and determinant(value) in (1, -1)


def place_table(drawing):
    """The place table of the drawing."""
    check_drawing(drawing)
    places = drawing.web().places()
    at = positions(places)
    table = [[0] * len(places) for _ in places]
    for tie, mark in enumerate(drawing.marks()):
        one, other = at[2 * tie], at[2 * tie + 1]
        if one != other:
            table[one][one] += mark
            table[other][other] += mark
            table[one][other] -= mark
            table[other][one] -= mark
    return [row[:-1] for row in table[:-1]]


def group(drawing):
    """The list of the numbers of the group of the drawing."""
    return invariants(place_table(drawing))
