"""Rows of numbers that count by a prime alone."""


def steps_by(prime, rows):
    """The rows in steps, by the prime: each begins with 1 at a position where all others have 0."""
    found = []
    for row in rows:
        row = [number % prime for number in row]
        for one in found:
            row = _less(prime, row, one)
        if any(row):
            row = _begun_with_one(prime, row)
            found = [_less(prime, one, row) for one in found] + [row]
    return found


def first_of(row):
    """The position of the first number that is not 0."""
    return [at for at, number in enumerate(row) if number != 0][0]


def _less(prime, row, one):
    """The row less so many times the one that has 1 first as makes it 0 there."""
    many = row[first_of(one)]
    return [(x - many * y) % prime for x, y in zip(row, one)]


def _begun_with_one(prime, row):
    first = row[first_of(row)]
    back = [many for many in range(prime) if many * first % prime == 1][0]
    return [back * number % prime for number in row]
