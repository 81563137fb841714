"""Rows of regions and the second polynomial: [9a2], [9a3], [9a4], [9a5], KEPT of [4]."""

import unittest
from collections import Counter

import cord_model
import group_model
import model
from neverfewer.blocks import joined
from neverfewer.cords import cords
from neverfewer.discs import length
from neverfewer.drawings import Drawing, from_behind, negated, other_colour, plain_drawing
from neverfewer.flypes import flyped, flypes
from neverfewer.laurent import Laurent
from neverfewer.second import region_rows, second
from neverfewer.signs import linking
from neverfewer.trees import trees_many
from neverfewer.webs import Web
from wrong import check_kept, check_wrong, plain
from test_cords import wrong_directions
from test_discs import LARGE
from test_drawings import NO_DRAWINGS, THREE, made
from test_states import DRAWINGS

SOME = cord_model.drawings_up_to(2) + DRAWINGS[::2] + [(turn, cord_model.some_marks(turn, 3)) for turn in (
    model.grown(7, 2), model.ring(6), model.bunch(6), model.joined(model.ring(3), 1, model.bunch(4), 4))]
ALIKE = [turn for many in range(5) for turn in model.names(many)[::3]] + model.block_names(6)[::3] + LARGE + [
    model.grown(9, 1), model.grown(10, 2), model.grown(11, 3), model.grown(12, 4, 0.7)]


def each(drawings):
    for turn, marks in drawings:
        for ways in cord_model.all_directions(turn)[:8]:
            yield (turn, marks), ways


def by_all_directions(drawing):
    """The second polynomials by all directions, each as often."""
    return Counter(tuple(second(drawing, ways).terms()) for ways in cord_model.all_directions(drawing.web().turn()))


class RegionRows(unittest.TestCase):

    def test_all_of_them(self):
        for drawing, ways in each(SOME):
            told = region_rows(made(drawing), ways)
            self.assertEqual(told, [group_model.region_row(drawing, ways, tie) for tie in range(len(drawing[1]))])
            self.assertEqual([type(told)] + [type(row) for row in told], [list] * (len(told) + 1))
            self.assertTrue(all(type(pair) is tuple and type(number) is int for row in told for pair in row for number in pair))
            self.assertEqual(region_rows(drawing=made(drawing), directions=ways), told)

    def test_each_sums_to_nought(self):
        for drawing, ways in each(SOME + [(turn, cord_model.some_marks(turn, 1)) for turn in LARGE]):
            for row in region_rows(made(drawing), ways):
                self.assertEqual([len(row), sum(a for a, b in row), sum(b for a, b in row)], [len(drawing[1]) + 2, 0, 0])

    def test_no_ties(self):
        self.assertEqual(region_rows(plain_drawing(Web(())), (1,)), [])

    def test_wrong_values(self):
        for call in (region_rows, second):
            for turn in (THREE, (2, 3, 0, 1), ()):
                good = {"drawing": plain_drawing(Web(turn)), "directions": cord_model.all_directions(turn)[-1]}
                check_wrong(self, call, good, {
                    "drawing": plain(NO_DRAWINGS, "InvalidDrawing"),
                    "directions": plain(wrong_directions(turn), "InvalidDirections")})
                check_kept(self, call, *good.values())


class Second(unittest.TestCase):

    def test_by_the_determinant(self):
        for drawing, ways in each(SOME):
            told = second(made(drawing), ways)
            self.assertIs(type(told), Laurent)
            self.assertEqual(dict(told.terms()), group_model.second(drawing, ways))
            self.assertEqual(second(drawing=made(drawing), directions=ways), told)

    def test_each_other_corner(self):
        for drawing, ways in list(each(SOME))[::3]:
            for corner in model.corners(drawing[0])[1::2]:
                self.assertEqual(group_model.second(drawing, ways, corner), dict(second(made(drawing), ways).terms()))

    def test_how_it_begins(self):
        for drawing, ways in each(SOME):
            told = second(made(drawing), ways)
            if told.terms():
                self.assertEqual(told.least, 0)
                self.assertGreater(told.at(0), 0)

    def test_what_keeps_it(self):
        for (turn, marks), ways in each(SOME + [(turn, cord_model.some_marks(turn, 6)) for turn in LARGE[::2]]):
            drawing, come = made((turn, marks)), cord_model.came_in(turn, ways)
            told = second(drawing, ways)
            self.assertEqual(second(negated(drawing), ways), told)
            self.assertEqual(second(drawing, tuple(1 - way for way in ways)), told)
            if len(turn) <= 16:
                there = cord_model.directions_of(model.about(turn), {end ^ 2 if end % 2 == 0 else end for end in come})
                self.assertEqual(second(other_colour(drawing), there), told)
                there = cord_model.directions_of(model.behind(turn), {end ^ 1 for end in come})
                self.assertEqual(second(from_behind(drawing), there), told)

    def test_read_backward(self):
        for drawing, ways in each(SOME + [(turn, cord_model.some_marks(turn, 6)) for turn in LARGE]):
            numbers = second(made(drawing), ways).numbers()
            sign = 1 if len(cords(Web(drawing[0]))) % 2 else -1
            self.assertEqual(numbers[::-1], tuple(sign * number for number in numbers))
            self.assertLessEqual(len(numbers) - 1, length(Web(drawing[0]), ways))

    def test_their_sums(self):
        for drawing, ways in each(SOME):
            turn, told = drawing[0], second(made(drawing), ways)
            many = len(cords(Web(turn)))
            self.assertEqual(abs(sum(told.numbers())), 1 if many == 1 else 0)
            self.assertEqual(abs(sum(number * (-1) ** exponent for exponent, number in told.terms())),
                             abs(group_model.sum_over_trees(drawing)))
            if many == 2:
                self.assertEqual(abs(sum(exponent * number for exponent, number in told.terms())),
                                 abs(linking(made(drawing), ways, 0, 1)))

    def test_joined(self):
        some = [drawing for drawing in SOME if len(drawing[1]) <= 4][::9] + [(THREE, (1, 1, 1)), (model.ring(4), (1,) * 4)]
        for one in some:
            for other in some[::2]:
                # A tie of the second one is called as many more as the first one has.
                shift = 2 * len(one[0])
                web = joined(Web(one[0]), 0, Web(other[0]), 0)
                both = Drawing(web, one[1] + other[1])
                for ways in cord_model.all_directions(web.turn())[:4]:
                    come = cord_model.came_in(web.turn(), ways)
                    here = cord_model.directions_of(one[0], {end for end in come if end < shift}) if one[0] else (0,)
                    there = {end - shift for end in come if end >= shift}
                    there = cord_model.directions_of(other[0], there) if other[0] else (0,)
                    self.assertEqual(second(both, ways), second(made(one), here) * second(made(other), there))

    def test_moves_keep_it(self):
        for seed, drawing in enumerate(SOME[::4]):
            told = by_all_directions(made(drawing))
            for other in cord_model.wandered(drawing, seed, 7, 12)[1]:
                self.assertEqual(by_all_directions(made(other)), told)

    def test_flypes_keep_it(self):
        for turn in model.block_names(5) + model.block_names(6)[::6] + [model.grown(9, 2)]:
            told = by_all_directions(plain_drawing(Web(turn)))
            for tie, ties in flypes(Web(turn))[::4]:
                self.assertEqual(by_all_directions(plain_drawing(flyped(Web(turn), tie, ties))), told)

    def test_marks_all_alike(self):
        for turn in ALIKE:
            many = trees_many(Web(turn))
            for mark in (1, -1):
                drawing = Drawing(Web(turn), [mark] * (len(turn) // 2))
                for ways in cord_model.all_directions(turn)[:6]:
                    numbers = second(drawing, ways).numbers()
                    self.assertEqual(len(numbers), length(Web(turn), ways) + 1)
                    self.assertTrue(all(number * (-1) ** at > 0 for at, number in enumerate(numbers)))
                    self.assertEqual(sum(abs(number) for number in numbers), many)

    def test_no_ties(self):
        for way in (0, 1):
            self.assertEqual(second(plain_drawing(Web(())), (way,)), Laurent(0, [1]))

    def test_nought(self):
        for ways in ((0, 0), (0, 1)):
            self.assertEqual(second(Drawing(Web((2, 3, 0, 1)), (1, -1)), ways), Laurent(0, []))


if __name__ == "__main__":
    unittest.main()
