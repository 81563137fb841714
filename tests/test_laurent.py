"""Sums of powers: [6a1]."""

import unittest
from random import Random

import cord_model
from neverfewer.laurent import Laurent
from wrong import KINDS, NO_LISTS, check_raised

NO_EXPONENTS = [value for value in KINDS if value != 10 ** 29] + ["1", b"1", (1,), [1]]
TOO_FAR = [-1001, 1001, 10 ** 9, -10 ** 29, 10 ** 29]
NO_NUMBERS = NO_LISTS + [[None], [True], [1, False], (1, "1"), [[1]], [1, (2,)], "12", b"12", {1: 1}, {1}, [1, b"1"]]


def some(seed):
    """A dict of exponents and numbers."""
    luck = Random(seed)
    return cord_model.cleaned({luck.randrange(-9, 10): luck.randrange(-3, 4) for _ in range(luck.randrange(8))})


def made(numbers):
    """The Laurent of a dict of numbers."""
    if not numbers:
        return Laurent(3, [])
    least, greatest = min(numbers), max(numbers)
    return Laurent(least, [numbers.get(at, 0) for at in range(least, greatest + 1)])


ROWS = [some(seed) for seed in range(60)] + [{}, {0: 1}, {5: -1}, {-1000: 1, 1000: -2}, {0: 10 ** 40}]


class Laurents(unittest.TestCase):

    def check(self, laurent, numbers):
        """Whether the Laurent has just these numbers."""
        self.assertIs(type(laurent), Laurent)
        told = sorted(numbers.items())
        self.assertEqual([laurent.terms(), type(laurent.terms())], [told, list])
        self.assertTrue(all(type(pair) is tuple for pair in laurent.terms()))
        least, greatest = (min(numbers), max(numbers)) if numbers else (0, 0)
        self.assertEqual([laurent.least, laurent.span()], [least, greatest - least])
        row = tuple(numbers.get(at, 0) for at in range(least, greatest + 1)) if numbers else ()
        self.assertEqual([laurent.numbers(), type(laurent.numbers())], [row, tuple])
        for at in (least - 1, least, 0, 1, greatest, greatest + 1, 10 ** 25, -10 ** 25):
            self.assertEqual([laurent.at(at), type(laurent.at(at))], [numbers.get(at, 0), int])
        self.assertEqual(laurent.at(exponent=least), numbers.get(least, 0))

    def test_what_they_have(self):
        for numbers in ROWS:
            self.check(made(numbers), numbers)

    def test_noughts_at_both_ends(self):
        for numbers in ROWS[:30]:
            row = made(numbers).numbers()
            least = made(numbers).least
            for ahead in range(3):
                for behind in range(3):
                    given = [0] * ahead + list(row) + [0] * behind
                    for kind in (list, tuple):
                        self.check(Laurent(least - ahead, kind(given)), numbers)
                    self.assertEqual(Laurent(least=least - ahead, numbers=given), made(numbers))

    def test_nought(self):
        for least in (-1000, -1, 0, 7, 1000):
            for row in ([], (), [0], [0] * 5):
                nought = Laurent(least, row)
                self.assertEqual([nought.least, nought.numbers(), nought.terms(), nought.span(), nought.at(least)],
                                 [0, (), [], 0, 0])
                self.assertEqual([nought == Laurent(0, []), nought == -nought, nought == nought.mirrored()], [True] * 3)

    def test_equal(self):
        for one in ROWS[::2]:
            for other in ROWS[::3]:
                self.assertIs(made(one) == made(other), one == other)
                self.assertIs(made(one) != made(other), one != other)
        for value in KINDS + [1, (0, 1), [(0, 1)], {0: 1}, "1", Laurent]:
            self.assertFalse(Laurent(0, [1]) == value)
            self.assertTrue(Laurent(0, [1]) != value)

    def test_arithmetic(self):
        for one in ROWS[::2]:
            self.check(-made(one), cord_model.cleaned({at: -number for at, number in one.items()}))
            for other in ROWS[::3]:
                self.check(made(one) + made(other), cord_model.added(one, other))
                self.check(made(one) - made(other), cord_model.added(one, other, -1))
                self.check(made(one) * made(other), cord_model.multiplied(one, other))

    def test_mirrored_and_shifted(self):
        for numbers in ROWS:
            self.check(made(numbers).mirrored(), cord_model.mirrored(numbers))
            for many in (-1000, -3, 0, 1, 4, 1000):
                self.check(made(numbers).shifted(many), {at + many: number for at, number in numbers.items()})
                self.assertEqual(made(numbers).shifted(many=many), made(numbers).shifted(many))

    def test_far_exponents_come_of_near_ones(self):
        low, high = Laurent(-1000, [1]), Laurent(1000, [2])
        self.check(low + high, {-1000: 1, 1000: 2})
        self.check(low * low * low, {-3000: 1})
        self.check(high.shifted(1000).shifted(1000), {3000: 2})
        self.check((low * high).shifted(-1000) - low, {-1000: 1})
        self.check(high.shifted(1000).mirrored(), {-2000: 2})
        self.assertEqual([(low * low).at(-2000), high.at(10 ** 28)], [1, 0])

    def test_many_numbers(self):
        row = list(range(-500, 500))
        one = Laurent(-500, row)
        self.check(one, {at: at for at in range(-500, 500) if at})
        self.assertEqual((one * Laurent(0, [1] * 3)).at(499), 499 + 498 + 497)

    def test_no_two_objects_are_changed(self):
        one, other = Laurent(-1, [1, 0, -2]), Laurent(2, [3])
        for _ in range(2):
            found = [one + other, one - other, one * other, -one, one.mirrored(), one.shifted(2)]
            one.terms().append((9, 9))
            one.terms().reverse()
            self.assertEqual([one.terms(), other.terms()], [[(-1, 1), (1, -2)], [(2, 3)]])
            self.assertEqual([row.terms() for row in found], [
                [(-1, 1), (1, -2), (2, 3)], [(-1, 1), (1, -2), (2, -3)], [(1, 3), (3, -6)], [(-1, -1), (1, 2)],
                [(-1, -2), (1, 1)], [(1, 1), (3, -2)]])

    def test_what_is_given_is_copied(self):
        row = [1, 2]
        one = Laurent(0, row)
        row.append(3)
        row[0] = 9
        self.assertEqual(one.numbers(), (1, 2))

    def test_wrong_values(self):
        for value in NO_EXPONENTS + TOO_FAR:
            told = ("InvalidExponent", {"value": value})
            check_raised(self, told, Laurent, value, [1])
            check_raised(self, told, Laurent, value, None)
            check_raised(self, told, Laurent, least=value, numbers=[1])
            check_raised(self, told, Laurent(0, [1]).shifted, value)
            check_raised(self, told, Laurent(0, []).shifted, many=value)
        for value in NO_EXPONENTS:
            check_raised(self, ("InvalidExponent", {"value": value}), Laurent(0, [1]).at, value)
            check_raised(self, ("InvalidExponent", {"value": value}), Laurent(0, []).at, value)
        for value in TOO_FAR:
            self.assertEqual(Laurent(0, [1]).at(value), 0)
        for value in NO_NUMBERS:
            for least in (-1000, 0, 1000):
                check_raised(self, ("InvalidNumbers", {"value": value}), Laurent, least, value)
            check_raised(self, ("InvalidExponent", {"value": 1001}), Laurent, 1001, value)

    def test_at_both_limits(self):
        for least in (-1000, 1000):
            self.check(Laurent(least, [1, 2]), {least: 1, least + 1: 2})
            self.check(Laurent(0, [1]).shifted(least), {least: 1})


if __name__ == "__main__":
    unittest.main()
