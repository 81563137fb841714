"""Rings out of tables alone, and changes from one table to an other one."""

from neverfewer.errors import InvalidTable
from neverfewer.primes import steps_by
from neverfewer.smiths import diagonal_of, put_in
from neverfewer.tables import check_table, determinant, dot, is_square, table_times, turned_table

MOST_LISTS = 6


def _check_even_table(table):
    """Raises InvalidTable unless it is a table, not too large, that has at i, j what stands at j, i."""
    check_table(table)
    if len(table) > MOST_LISTS or turned_table(table) != [list(row) for row in table]:
        raise InvalidTable(table)


def _small_rows(many):
    """All rows of so many numbers -1, 0 and 1, rising."""
    rows = [()]
    for _ in range(many):
        rows = [row + (number,) for row in rows for number in (-1, 0, 1)]
    return rows


def _image(table, row):
    """What other rows are multiplied by to weigh them together with the row."""
    return tuple([dot(row, one) for one in table])


def _weight(table, row):
    """What the row weighs."""
    return dot(row, _image(table, row))


def table_rings(table):
    """The sorted list of all lone rows."""
    _check_even_table(table)
    rows = _small_rows(len(table))
    # Of each row and that row negated, the greater one begins with 1; the row of 0 alone stands in the middle.
    alike = {}
    for row in rows[len(rows) // 2 + 1:]:
        key = tuple([abs(number) for number in row])
        alike.setdefault(key, []).append((_weight(table, row), row))
    return sorted([row for pairs in alike.values() for row in _lone(pairs)])


def _lone(pairs):
    """The row, of pairs of weights and rows, that weighs less than all others, if there is one."""
    least = min([weight for weight, row in pairs])
    lightest = [row for weight, row in pairs if weight == least]
    return lightest if len(lightest) == 1 else []


def is_change(table, other, value):
    """Whether any value is a change from the table to the other one."""
    _check_even_table(table)
    _check_even_table(other)
    if len(table) != len(other) or not is_square(value, len(table)):
        return False
    if determinant(value) not in (1, -1):
        return False
    return table_times(table_times(value, table), turned_table(value)) == [list(row) for row in other]


def change(table, other):
    """A change with -1, 0 and 1 alone from the table to the other one; None if there is none."""
    _check_even_table(table)
    _check_even_table(other)
    if len(table) != len(other) or determinant(table) != determinant(other):
        return None
    if diagonal_of(table)[0] != diagonal_of(other)[0]:
        return None
    # Rows of one image weigh alike with all others; so one of them stands for all, up to the determinant.
    rows_of = {}
    for row in _small_rows(len(table)):
        rows_of.setdefault(_image(table, row), []).append(row)
    firsts = [rows[0] for rows in rows_of.values()]
    choices = {at: [one for one in firsts if _weight(table, one) == other[at][at]] for at in range(len(other))}
    return _completed(table, other, rows_of, {}, choices)


def _completed(table, other, rows_of, chosen, choices):
    """A change with rows like those that are chosen, by their positions, and like some of the choices; or None."""
    if not choices:
        return _of_unit_determinant([rows_of[_image(table, chosen[at])] for at in range(len(table))], {}, [], {})
    # The position that has the fewest choices is the first to fail.
    at = min([(len(choices[one]), one) for one in choices])[1]
    for row in choices[at]:
        image = _image(table, row)
        left = {
            one: [two for two in rows if dot(image, two) == other[at][one]]
            for one, rows in choices.items() if one != at
        }
        if not any([not rows for rows in left.values()]):
            found = _completed(table, other, rows_of, {**chosen, at: row}, left)
            if found is not None:
                return found
    return None


def _of_unit_determinant(choices, chosen, steps, seen):
    """The same rows, by their positions, with one of each further list of choices, of determinant 1 or -1; or None.

    The chosen rows have the same sums of multiples as the steps. On these alone it rests what can come of them;
    what is seen already came to nothing.
    """
    left = [(len(rows), at) for at, rows in enumerate(choices) if at not in chosen]
    if not left:
        rows = [list(chosen[at]) for at in range(len(choices))]
        return rows if determinant(rows) in (1, -1) else None
    at = min(left)[1]
    for row in choices[at]:
        new = put_in(steps, list(row))
        key = tuple([tuple(one) for one in new])
        if key not in seen:
            seen[key] = True
            # Rows that lean on each other, be it by a prime alone, have another determinant.
            if all([len(steps_by(prime, new)) == len(chosen) + 1 for prime in (2, 3, 5)]):
                found = _of_unit_determinant(choices, {**chosen, at: row}, new, seen)
                if found is not None:
                    return found
    return None
