"""Drawings, negated, from behind, in the other colour, and which are alike: [11], [5a1]."""

import unittest

import cord_model
import model
from neverfewer.drawings import Drawing, drawings_alike, from_behind, negated, other_colour, plain_drawing
from neverfewer.webs import Web, about, behind
from wrong import KINDS, NO_WEBS, check_kept, check_raised, check_wrong, plain, webs_and

SMALL = cord_model.drawings_up_to(3)
LARGE = cord_model.some_drawings([4]) + cord_model.some_drawings([5], 9)
LARGE += [(turn, cord_model.some_marks(turn, 3)) for turn in (model.ring(14), model.star(14), model.grown(14, 2))]
THREE = (5, 2, 1, 4, 3, 0)
NO_MARKS = KINDS + [
    [1, 1], [1, 1, 1, 1], [1, 1, 0], [1, 1, 2], [1, 1, True], [True, 1, -1], [1, -1, "1"], [1, -1, None], [1, 1, -2],
    [1, 1, [1]], "111", "+-+", {1, -1}, {0: 1, 1: 1, 2: 1}, b"\x01\x01\x01", [1, 1, 10 ** 20], (1, 1), (1, 1, False), [[1, 1, 1]]]
NO_DRAWINGS = NO_WEBS + [Web(THREE), (Web(THREE), (1, 1, 1)), [Web(THREE), [1, 1, 1]], Drawing]


def made(drawing):
    return Drawing(Web(drawing[0]), list(drawing[1]))


def told(drawing):
    return drawing.web().turn(), drawing.marks()


class Drawings(unittest.TestCase):

    def test_what_they_have(self):
        for turn, marks in SMALL + LARGE:
            for given in (marks, list(marks)):
                drawing = Drawing(Web(turn), given)
                self.assertEqual([drawing.web(), drawing.marks(), drawing.many], [Web(turn), marks, len(marks)])
                self.assertEqual([type(drawing.web()), type(drawing.marks()), type(drawing.many)], [Web, tuple, int])
                self.assertTrue(all(type(mark) is int for mark in drawing.marks()))
            self.assertEqual(Drawing(web=Web(turn), marks=marks), drawing)

    def test_equal(self):
        for one in SMALL[::3]:
            for other in SMALL[::5]:
                self.assertIs(made(one) == made(other), one == other)
                self.assertIs(made(one) != made(other), one != other)
        for value in NO_DRAWINGS:
            self.assertFalse(made((THREE, (1, 1, 1))) == value)
            self.assertTrue(made((THREE, (1, 1, 1))) != value)

    def test_what_is_given_is_copied(self):
        marks = [1, -1, 1]
        drawing = Drawing(Web(THREE), marks)
        marks[0] = -1
        marks.append(1)
        self.assertEqual([drawing.marks(), drawing.many], [(1, -1, 1), 3])

    def test_plain_ones(self):
        for turn, marks in SMALL[::4] + LARGE:
            drawing = plain_drawing(Web(turn))
            self.assertEqual(told(drawing), (turn, (1,) * len(marks)))
            self.assertEqual(plain_drawing(web=Web(turn)), drawing)

    def test_other_sides(self):
        for one in SMALL + LARGE:
            drawing = made(one)
            for call, slow in ((negated, cord_model.negated), (from_behind, cord_model.from_behind),
                               (other_colour, cord_model.other_colour)):
                self.assertEqual(told(call(drawing)), slow(one))
                self.assertEqual(call(call(drawing)), drawing)
                self.assertEqual(call(drawing=drawing), call(drawing))
            self.assertEqual(other_colour(drawing).web(), about(drawing.web()))
            self.assertEqual(from_behind(drawing).web(), behind(drawing.web()))
            self.assertEqual(told(drawing), one)

    def test_examples_told(self):
        drawing = Drawing(Web(THREE), [1, 1, -1])
        self.assertEqual([negated(drawing).marks(), other_colour(drawing).marks(), from_behind(drawing).marks()],
                         [(-1, -1, 1), (-1, -1, 1), (1, 1, -1)])

    def test_wrong_values(self):
        good = {"web": Web(THREE), "marks": [1, 1, -1]}
        wrong = {"web": webs_and((made((THREE, (1, 1, 1))), "InvalidWeb", {})), "marks": plain(NO_MARKS, "InvalidMarks")}
        for value, error, attributes in wrong["web"]:
            check_raised(self, (error, attributes), Drawing, value, [1, 1, 1])
            check_raised(self, (error, attributes), Drawing, value, None)
            check_raised(self, (error, attributes), plain_drawing, value)
        for value, error, attributes in wrong["marks"]:
            check_raised(self, (error, attributes), Drawing, good["web"], value)
            check_raised(self, (error, attributes), Drawing, web=good["web"], marks=value)
        for call in (negated, from_behind, other_colour):
            for value in NO_DRAWINGS:
                check_raised(self, ("InvalidDrawing", {"value": value}), call, value)
        for value in ([1], (1,), None, {}):
            check_raised(self, ("InvalidMarks", {"value": value}), Drawing, Web(()), value)
        for value in ([], ()):
            self.assertEqual(Drawing(Web(()), value).marks(), ())


class Alike(unittest.TestCase):

    def test_each_with_each(self):
        for one in SMALL[::2]:
            for other in SMALL[::3]:
                self.assertIs(drawings_alike(made(one), made(other)), cord_model.are_alike(one, other))

    def test_called_otherwise(self):
        for seed, (turn, marks) in enumerate(SMALL + LARGE):
            for row in model.carryings(turn, model.scrambled(turn, seed))[:2]:
                other = [0] * len(marks)
                for tie, mark in enumerate(marks):
                    other[row[2 * tie] // 2] = mark
                drawing = Drawing(Web(model.scrambled(turn, seed)), other)
                self.assertIs(drawings_alike(made((turn, marks)), drawing), True)
                self.assertIs(drawings_alike(drawing=drawing, other=made((turn, marks))), True)
                if marks:
                    other[0] = -other[0]
                    changed = Drawing(drawing.web(), other)
                    self.assertIs(drawings_alike(made((turn, marks)), changed), False)

    def test_other_sides_of_alike_ones(self):
        for one in SMALL[::4]:
            for other in SMALL[::7]:
                if cord_model.are_alike(one, other):
                    for call in (negated, from_behind, other_colour):
                        self.assertIs(drawings_alike(call(made(one)), call(made(other))), True)

    def test_no_ties_and_other_sizes(self):
        circle = plain_drawing(Web(()))
        self.assertIs(drawings_alike(circle, Drawing(Web(()), ())), True)
        self.assertIs(drawings_alike(circle, plain_drawing(Web((0, 1)))), False)
        self.assertIs(drawings_alike(plain_drawing(Web((0, 1))), circle), False)
        self.assertIs(drawings_alike(plain_drawing(Web((0, 1))), plain_drawing(Web((1, 0)))), False)

    def test_wrong_values(self):
        good = {"drawing": made((THREE, (1, 1, -1))), "other": made((THREE, (1, -1, 1)))}
        check_wrong(self, drawings_alike, good, {
            "drawing": plain(NO_DRAWINGS, "InvalidDrawing"), "other": plain(NO_DRAWINGS, "InvalidDrawing")})

    def test_new_each_time(self):
        drawing = made((THREE, (1, 1, -1)))
        for call in (negated, from_behind, other_colour):
            self.assertEqual(told(call(drawing)), told(call(drawing)))
        check_kept(self, drawings_alike, drawing, drawing)
        self.assertEqual(told(drawing), (THREE, (1, 1, -1)))


if __name__ == "__main__":
    unittest.main()
