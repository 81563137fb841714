"""Arcs of drawings, and colourings of them by primes."""

from neverfewer.cycles import behind_turn
from neverfewer.drawings import check_drawing
from neverfewer.errors import InvalidPrime, TooMany
from neverfewer.primes import first_of, steps_by
from neverfewer.values import are_below, is_integer, is_list

PRIMES = (2, 3, 5, 7, 11, 13)
MOST_COLOURINGS = 400


def _corners_met(drawing):
    """For each tie the two corners where a cord goes over, and the two where one goes under."""
    ahead = behind_turn(drawing.web().turn())
    found = []
    for tie, mark in enumerate(drawing.marks()):
        near, far = (2 * tie, 2 * tie + 1), (ahead[2 * tie], ahead[2 * tie + 1])
        found.append((near, far) if mark == 1 else (far, near))
    return found


def _arcs_at(drawing):
    """For each corner a number, the same one for the corners of one arc."""
    at = list(range(max(1, 2 * drawing.many)))
    for over, under in _corners_met(drawing):
        one, other = at[over[0]], at[over[1]]
        at = [one if number == other else number for number in at]
    return at


def arcs(drawing):
    """The sorted list of the arcs."""
    check_drawing(drawing)
    at = _arcs_at(drawing)
    return sorted([tuple([corner for corner in range(len(at)) if at[corner] == arc]) for arc in sorted(set(at))])


def _check_prime(prime):
    """Raises InvalidPrime unless it is one of the primes that are asked for."""
    if not is_integer(prime) or prime not in PRIMES:
        raise InvalidPrime(prime)


def _rules(drawing):
    """For each tie what each arc is multiplied by, for a sum that is to be a multiple of the prime."""
    found = arcs(drawing)
    at = {corner: number for number, arc in enumerate(found) for corner in arc}
    rows = []
    for over, under in _corners_met(drawing):
        row = [0] * len(found)
        for corner, number in ((over[0], 2), (under[0], -1), (under[1], -1)):
            row[at[corner]] += number
        rows.append(row)
    return rows


def is_colouring(drawing, prime, value):
    """Whether any value is a colouring by the prime."""
    check_drawing(drawing)
    _check_prime(prime)
    if not is_list(value) or len(value) != len(arcs(drawing)) or not are_below(value, prime):
        return False
    return all([sum([x * y for x, y in zip(row, value)]) % prime == 0 for row in _rules(drawing)])


def colourings(drawing, prime):
    """The sorted list of all colourings by the prime."""
    many = colourings_many(drawing, prime)
    if many > MOST_COLOURINGS:
        raise TooMany("colourings", MOST_COLOURINGS)
    steps = steps_by(prime, _rules(drawing))
    size = len(arcs(drawing))
    firsts = [first_of(row) for row in steps]
    found = [[0] * size]
    for free in [at for at in range(size) if at not in firsts]:
        found = [_raised(prime, steps, free, row, number) for row in found for number in range(prime)]
    return sorted(found)


def _raised(prime, steps, free, row, number):
    """The colouring with so much added at a position that is free, and at the first positions what goes along."""
    new = list(row)
    new[free] += number
    for step in steps:
        at = first_of(step)
        new[at] = (new[at] - step[free] * number) % prime
    return new


def colourings_many(drawing, prime):
    """How many colourings there are by the prime."""
    check_drawing(drawing)
    _check_prime(prime)
    many = 1
    for _ in range(len(arcs(drawing)) - len(steps_by(prime, _rules(drawing)))):
        many = many * prime
    return many
