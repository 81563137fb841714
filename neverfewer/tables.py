"""Tables of INTEGERS, as lists of lists."""

from neverfewer.errors import InvalidTable
from neverfewer.values import is_integer, is_list

MOST_LISTS = 14


def is_square(value, many):
    """Whether any value is a list of so many lists, each of so many INTEGERS."""
    return is_list(value) and len(value) == many and all([_is_row(row, many) for row in value])


def _is_row(value, many):
    return is_list(value) and len(value) == many and all([is_integer(number) for number in value])


def check_table(table):
    """Raises InvalidTable unless it is a table of as many lists as each has INTEGERS, not too many."""
    if not is_list(table) or len(table) > MOST_LISTS or not is_square(table, len(table)):
        raise InvalidTable(table)


def unit_table(many):
    """The table with 1 at i, i and 0 elsewhere."""
    return [[1 if column == row else 0 for column in range(many)] for row in range(many)]


def turned_table(table):
    """The table with what stood at j, i at i, j."""
    return [[row[at] for row in table] for at in range(len(table))]


def dot(row, other):
    """The sum of the products of the numbers of two rows."""
    return sum([x * y for x, y in zip(row, other)])


def table_times(table, other):
    """The product of two tables."""
    columns = turned_table(other)
    return [[dot(row, column) for column in columns] for row in table]


def determinant(table):
    """The determinant of the table; 1 without lists."""
    rows = [list(row) for row in table]
    sign, last = 1, 1
    for at in range(len(rows)):
        first = [row for row in range(at, len(rows)) if rows[row][at] != 0]
        if not first:
            return 0
        if first[0] != at:
            rows[at], rows[first[0]] = rows[first[0]], rows[at]
            sign = -sign
        top = rows[at]
        # What is divided is a multiple of the number by which the step ahead of this one multiplied.
        for row in range(at + 1, len(rows)):
            low = rows[row]
            rows[row] = [(top[at] * y - low[at] * x) // last for x, y in zip(top, low)]
        last = top[at]
    return sign * last
