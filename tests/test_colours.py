"""Arcs and colourings: [8b3], [8b4], [8b5]."""

import unittest
from itertools import product

import cord_model
import group_model
import model
from neverfewer.colours import arcs, colourings, colourings_many, is_colouring
from neverfewer.cords import cords
from neverfewer.drawings import Drawing, plain_drawing
from neverfewer.flypes import flyped, flypes
from neverfewer.groups import group
from neverfewer.webs import Web
from wrong import KINDS, check_bools, check_kept, check_raised, check_wrong, plain
from test_drawings import NO_DRAWINGS, THREE, made
from test_groups import LARGE, SMALL

PRIMES = (2, 3, 5, 7, 11, 13)
NO_PRIMES = [value for value in KINDS] + [0, 1, 4, 6, 9, 12, 14, 15, 17, 19, -2, -3, 10 ** 20, "2", [2], (3,)]


class Arcs(unittest.TestCase):

    def test_all_of_them(self):
        for drawing in SMALL + LARGE:
            told = arcs(made(drawing))
            self.assertEqual(told, group_model.arcs(drawing))
            self.assertEqual([type(told)] + [type(arc) for arc in told], [list] + [tuple] * len(told))
            self.assertEqual(arcs(drawing=made(drawing)), told)
            self.assertEqual(sorted(corner for arc in told for corner in arc), model.corners(drawing[0]))

    def test_without_ties(self):
        self.assertEqual(arcs(plain_drawing(Web(()))), [(0,)])
        self.assertEqual([arcs(Drawing(Web((1, 0)), [mark])) for mark in (1, -1)], [[(0, 1)], [(0, 1)]])

    def test_wrong_values(self):
        check_wrong(self, arcs, {"drawing": made((THREE, (1, 1, -1)))}, {"drawing": plain(NO_DRAWINGS, "InvalidDrawing")})
        check_kept(self, arcs, made((THREE, (1, 1, 1))))


class Colourings(unittest.TestCase):

    def test_all_of_them(self):
        found = 0
        for drawing in SMALL + LARGE[:2]:
            for prime in PRIMES:
                if prime ** len(group_model.arcs(drawing)) <= 700:
                    all_told = group_model.colourings(drawing, prime)
                    self.assertEqual(colourings_many(made(drawing), prime), len(all_told))
                    if len(all_told) <= 400:
                        told = colourings(made(drawing), prime)
                        self.assertEqual(told, all_told)
                        self.assertEqual([type(told)] + [type(row) for row in told], [list] * (len(told) + 1))
                        self.assertEqual(colourings(drawing=made(drawing), prime=prime), told)
                        found += 1
        self.assertGreater(found, 300)

    def test_by_the_group(self):
        for drawing in SMALL + LARGE:
            for prime in PRIMES:
                even = len([number for number in group(made(drawing)) if number % prime == 0])
                told = colourings_many(made(drawing), prime)
                self.assertEqual([told, type(told)], [prime ** (even + 1), int])
                self.assertEqual(colourings_many(drawing=made(drawing), prime=prime), told)

    def test_more_than_four_hundred(self):
        found = {True: set(), False: set()}
        for drawing in SMALL[::2] + LARGE:
            for prime in PRIMES:
                self.check_few(made(drawing), prime, found)
        chain = ()
        for many in range(1, 8):
            chain = model.joined(chain, 0, (2, 3, 0, 1), 0)
            for prime in PRIMES:
                unlike = Drawing(Web(chain), [1, -1] * many)
                self.assertEqual(colourings_many(unlike, prime), prime ** (many + 1))
                self.check_few(unlike, prime, found)
        self.assertTrue({256, 243, 343, 125, 169} <= found[True])
        self.assertTrue({625, 729, 1331, 2401} <= found[False])

    def check_few(self, drawing, prime, found):
        many = colourings_many(drawing, prime)
        found[many <= 400].add(many)
        if many <= 400:
            self.assertEqual(len(colourings(drawing, prime)), many)
            return
        told = ("TooMany", {"what": "colourings", "limit": 400})
        check_raised(self, told, colourings, drawing, prime)
        check_raised(self, told, colourings, drawing=drawing, prime=prime)

    def test_by_two(self):
        for drawing in SMALL[::3] + LARGE:
            if colourings_many(made(drawing), 2) <= 400:
                self.assertEqual(len(colourings(made(drawing), 2)), 2 ** len(cords(Web(drawing[0]))))

    def test_moves_and_flypes_keep_how_many(self):
        for seed, drawing in enumerate(SMALL[::6]):
            for other in cord_model.wandered(drawing, seed, 8, 14)[1]:
                for prime in (2, 3, 5, 13):
                    self.assertEqual(colourings_many(made(other), prime), colourings_many(made(drawing), prime))
        for turn in (model.grown(8, 2), model.grown(9, 4), model.grown(10, 1, 0.7)):
            for tie, ties in flypes(Web(turn))[::3]:
                for prime in PRIMES:
                    self.assertEqual(colourings_many(plain_drawing(flyped(Web(turn), tie, ties)), prime),
                                     colourings_many(plain_drawing(Web(turn)), prime))

    def test_sums_and_multiples(self):
        for drawing in SMALL[::4]:
            for prime in (2, 3, 5):
                many = len(arcs(made(drawing)))
                for number in range(prime):
                    self.assertIs(is_colouring(made(drawing), prime, [number] * many), True)
                if colourings_many(made(drawing), prime) <= 30:
                    told = colourings(made(drawing), prime)
                    for one, other in product(told, told):
                        both = [(x + y) % prime for x, y in zip(one, other)]
                        self.assertIn(both, told)
                        self.assertIn([2 * x % prime for x in one], told)

    def test_wrong_values(self):
        for call in (colourings, colourings_many):
            check_wrong(self, call, {"drawing": made((THREE, (1, 1, 1))), "prime": 3}, {
                "drawing": plain(NO_DRAWINGS, "InvalidDrawing"), "prime": plain(NO_PRIMES, "InvalidPrime")})
            check_kept(self, call, made((THREE, (1, 1, 1))), 3)
        unlike = Drawing(Web((2, 3, 0, 1)), (1, -1))
        for value in NO_PRIMES:
            check_raised(self, ("InvalidPrime", {"value": value}), colourings, unlike, value)


class IsColouring(unittest.TestCase):

    def test_all_rows(self):
        for drawing in SMALL[::5]:
            for prime in (2, 3, 5):
                if (prime + 1) ** len(group_model.arcs(drawing)) <= 700:
                    for row in product(range(prime + 1), repeat=len(group_model.arcs(drawing))):
                        is_one = group_model.is_colouring(drawing, prime, row)
                        self.assertIs(is_colouring(made(drawing), prime, list(row)), is_one)
                        self.assertIs(is_colouring(drawing=made(drawing), prime=prime, value=row), is_one)

    def test_wrong_kinds(self):
        three = made((THREE, (1, 1, 1)))
        self.assertIs(is_colouring(three, 3, [0, 1, 2]), True)
        check_bools(self, lambda value: is_colouring(three, 3, value), KINDS + [
            [0, 1], [0, 1, 2, 0], [0, 0, 3], [3, 3, 3], [-1, -1, -1], [0, 0, -3], [True, True, True], [0, True, 2], [False, 1, 2],
            [0, 1, "2"], "012", [0, 1, None], {0: 0, 1: 1, 2: 2}, {0, 1, 2}, [[0], [1], [2]], [0, 1, 10 ** 20 * 3 + 2], [0, 0, 1]])
        self.assertIs(is_colouring(plain_drawing(Web(())), 13, [12]), True)
        check_bools(self, lambda value: is_colouring(plain_drawing(Web(())), 2, value), [[], [2], [True], [0, 0], 0, None])

    def test_wrong_values(self):
        check_wrong(self, is_colouring, {"drawing": made((THREE, (1, 1, 1))), "prime": 3, "value": [0, 1, 2]}, {
            "drawing": plain(NO_DRAWINGS, "InvalidDrawing"), "prime": plain(NO_PRIMES, "InvalidPrime")})


if __name__ == "__main__":
    unittest.main()
