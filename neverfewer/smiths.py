"""Reversible tables that make a table one with numbers at i, i alone, each of which divides the next one."""

from neverfewer.tables import turned_table, unit_table


def diagonal_of(table):
    """The full row of the table, and tables left and right such that left table right has it at i, i."""
    many = len(table)
    middle, left, right = table, unit_table(many), unit_table(many)
    while True:
        middle, left = _stepped(middle, left)
        across, right = _stepped(turned_table(middle), right)
        middle = turned_table(across)
        if _is_diagonal(middle):
            numbers, left, right = _divided([middle[at][at] for at in range(many)], left, right)
            return numbers, left, turned_table(right)


def _is_diagonal(table):
    return not any([table[row][column] for row in range(len(table)) for column in range(len(table)) if row != column])


def _stepped(table, beside):
    """The table in steps, by reversible changes of its rows that are done to those beside them, too."""
    found = []
    for row, other in zip(table, beside):
        # Both together are told by their steps in just one way, so their numbers stay small.
        found = put_in(found, list(row) + list(other))
    many = len(table)
    return [row[:many] for row in found], [row[many:] for row in found]


def put_in(rows, row):
    """The rows in steps that have the same sums of multiples as these rows in steps and one more."""
    new = []
    for at, one in enumerate(rows):
        if not any(row):
            return _cleared(new + rows[at:])
        if _first(row) < _first(one):
            return _cleared(new + [row] + rows[at:])
        if _first(row) == _first(one):
            one, row = _merged(one, row)
            row = _lessened(row, rows[at + 1:])
        new.append(one)
    return _cleared(new + [row] if any(row) else new)


def _first(row):
    """The position of the first number that is not 0."""
    return [at for at, number in enumerate(row) if number != 0][0]


def _merged(row, other):
    """Two rows that begin at one position, changed so that the second one begins behind it."""
    at = _first(row)
    divisor, x, y = _bezout(row[at], other[at])
    up, down = row[at] // divisor, other[at] // divisor
    return _sum_of(x, row, y, other), _sum_of(up, other, -down, row)


def _sum_of(x, row, y, other):
    return [x * one + y * two for one, two in zip(row, other)]


def _bezout(one, other):
    """The greatest common divisor, and what to multiply both by so that they sum to it; one is not 0."""
    # If the first one divides the other one, it is taken as it is.
    x, y, u, v = 1, 0, 0, 1
    while other % one != 0:
        q = other // one
        one, other = other - q * one, one
        x, y, u, v = u - q * x, v - q * y, x, y
    return one, x, y


def _lessened(row, below):
    """The row, made small at the first positions of the rows below."""
    for one in below:
        at = _first(one)
        row = _sum_of(1, row, -(row[at] // one[at]), one)
    return row


def _cleared(rows):
    """The rows with their first numbers greater than 0, and what stands above these less than they are."""
    found = []
    for row in reversed(rows):
        positive = row if row[_first(row)] > 0 else [-number for number in row]
        found.insert(0, _lessened(positive, found))
    return found


def _divided(numbers, left, right):
    """The numbers, changed until each divides the next one, with rows of left and of right along."""
    numbers, left, right = list(numbers), list(left), list(right)
    # All numbers that are 0 stand behind the others: rows of 0 alone are the last steps.
    many = len([number for number in numbers if number != 0])
    for at, other in _pairs(many):
        if numbers[other] % numbers[at] != 0:
            _divide(numbers, left, right, at, other)
    return numbers, left, right


def _pairs(many):
    """Pairs of positions: any so many numbers come to be sorted if they are put in sequence at these, pair by pair.

    The greatest common divisor and the least common multiple of two numbers have of each prime the lesser and the
    greater power; so these pairs lead to divisors, too. They are Batcher's merges, in which no number meets many
    others, so that what is noted beside them stays small.
    """
    found, size = [], 1
    while size < many:
        step = size
        while step >= 1:
            for start in range(step % size, many - step, 2 * step):
                ends = [(at, at + step) for at in range(start, min(start + step, many - step))]
                found.extend([(at, end) for at, end in ends if at // (2 * size) == end // (2 * size)])
            step = step // 2
        size = 2 * size
    return found


def _divide(numbers, left, right, at, other):
    """Exchanges two numbers for their greatest common divisor and their least common multiple."""
    divisor, x, y = _bezout(numbers[at], numbers[other])
    up, down = numbers[at] // divisor, numbers[other] // divisor
    one, two = left[at], left[other]
    left[at], left[other] = _sum_of(x, one, y, two), _sum_of(-down, one, up, two)
    one, two = right[at], right[other]
    right[at], right[other] = _sum_of(1, one, 1, two), _sum_of(-y * down, one, x * up, two)
    numbers[at], numbers[other] = divisor, up * numbers[other]
