"""Sums of powers of one letter, each multiplied by an INTEGER."""

from neverfewer.errors import InvalidExponent, InvalidNumbers
from neverfewer.values import is_integer, is_list

MOST_EXPONENT = 1000


class Laurent:
    """A sum of powers, which never changes."""

    def __init__(self, least, numbers):
        _check_exponent(least)
        if not is_list(numbers) or not all([is_integer(number) for number in numbers]):
            raise InvalidNumbers(numbers)
        # The pairs of exponents and numbers that are not 0, rising.
        self._terms = tuple([(least + at, number) for at, number in enumerate(numbers) if number != 0])

    @property
    def least(self):
        """The least exponent; 0 of nought."""
        return self._terms[0][0] if self._terms else 0

    def numbers(self):
        """The tuple of the numbers from the least exponent to the greatest one."""
        found = dict(self._terms)
        return tuple([found.get(self.least + at, 0) for at in range(self.span() + 1)]) if found else ()

    def terms(self):
        """The list of the tuples (exponent, number) of all numbers other than 0, rising."""
        return list(self._terms)

    def at(self, exponent):
        """The number at this exponent."""
        if not is_integer(exponent):
            raise InvalidExponent(exponent)
        return dict(self._terms).get(exponent, 0)

    def span(self):
        """The greatest exponent less the least one; 0 of nought."""
        return self._terms[-1][0] - self._terms[0][0] if self._terms else 0

    def mirrored(self):
        """The Laurent with all exponents negated."""
        return laurent_of({-exponent: number for exponent, number in self._terms})

    def shifted(self, many):
        """The Laurent in which each exponent is greater by many."""
        _check_exponent(many)
        return laurent_of({exponent + many: number for exponent, number in self._terms})

    def __add__(self, other):
        if not isinstance(other, Laurent):
            return NotImplemented
        return laurent_of(_summed(self._terms, other._terms, 1))

    def __sub__(self, other):
        if not isinstance(other, Laurent):
            return NotImplemented
        return laurent_of(_summed(self._terms, other._terms, -1))

    def __mul__(self, other):
        if not isinstance(other, Laurent):
            return NotImplemented
        return laurent_of(_multiplied(self._terms, other._terms))

    def __neg__(self):
        return laurent_of({exponent: -number for exponent, number in self._terms})

    def __eq__(self, other):
        return isinstance(other, Laurent) and self._terms == other._terms


def _check_exponent(value):
    """Raises InvalidExponent unless it is an INTEGER that a Laurent may be told with."""
    if not is_integer(value) or value < -MOST_EXPONENT or value > MOST_EXPONENT:
        raise InvalidExponent(value)


def laurent_of(numbers):
    """The Laurent with these numbers, a dict by their exponents, however great these are."""
    made = Laurent(0, [])
    made._terms = tuple([(exponent, numbers[exponent]) for exponent in sorted(numbers) if numbers[exponent] != 0])
    return made


def _summed(terms, others, factor):
    """The numbers of the terms, and of the others multiplied by the factor."""
    found = dict(terms)
    for exponent, number in others:
        found[exponent] = found.get(exponent, 0) + factor * number
    return found


def _multiplied(terms, others):
    """The numbers of the product."""
    found = {}
    for one, number in terms:
        for other, factor in others:
            found[one + other] = found.get(one + other, 0) + number * factor
    return found
