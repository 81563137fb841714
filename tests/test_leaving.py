"""The bracket by leaving and taking: [6b4], ONE BRACKET of [4]."""

import unittest
from itertools import permutations

import cord_model
import model
import ring_model
from neverfewer.active import bracket_by_trees
from neverfewer.drawings import Drawing, plain_drawing
from neverfewer.laurent import Laurent
from neverfewer.leaving import bracket_by_leaving
from neverfewer.states import bracket
from neverfewer.webs import Web
from wrong import check_kept, check_raised, check_wrong, plain
from test_active import orders, wrong_orders
from test_drawings import NO_DRAWINGS, THREE, made
from test_states import DRAWINGS
from test_trees import JUST, MORE


class BracketByLeaving(unittest.TestCase):

    def test_step_by_step(self):
        for seed, drawing in enumerate(DRAWINGS):
            for order in orders(len(drawing[1]), seed, 1):
                told = bracket_by_leaving(made(drawing), order)
                self.assertIs(type(told), Laurent)
                self.assertEqual(dict(told.terms()), ring_model.by_leaving(drawing, order))
                self.assertEqual(bracket_by_leaving(drawing=made(drawing), order=tuple(order)), told)

    def test_one_polynomial(self):
        for seed, drawing in enumerate(DRAWINGS):
            whole = bracket(made(drawing))
            for order in orders(len(drawing[1]), seed, 2):
                self.assertEqual(bracket_by_leaving(made(drawing), order), whole)
                self.assertEqual(bracket_by_trees(made(drawing), order), whole)

    def test_every_order(self):
        for drawing in cord_model.some_drawings([4], 6) + [(THREE, (1, 1, -1)), ((), ()), ((1, 0), (-1,)), ((0, 1), (-1,))]:
            whole = bracket(made(drawing))
            for order in permutations(range(len(drawing[1]))):
                self.assertEqual(bracket_by_leaving(made(drawing), list(order)), whole)

    def test_more_than_ten_ties(self):
        for turn in (model.ring(14), model.star(14), model.about(model.star(14)), JUST, model.grown(14, 5, 0.4)):
            many = len(turn) // 2
            drawing = Drawing(Web(turn), cord_model.some_marks(turn, 1))
            found = [bracket_by_leaving(drawing, order) for order in orders(many, 2)[:3]]
            self.assertEqual(found, [bracket_by_trees(drawing, list(range(many)))] * 3)

    def test_loops_and_bridges(self):
        for mark in (1, -1):
            self.assertEqual(bracket_by_leaving(Drawing(Web((1, 0)), (mark,)), [0]), Laurent(3 * mark, [-1]))
            self.assertEqual(bracket_by_leaving(Drawing(Web((0, 1)), (mark,)), [0]), Laurent(-3 * mark, [-1]))
        self.assertEqual(bracket_by_leaving(plain_drawing(Web(())), []), Laurent(0, [1]))

    def test_just_four_hundred_and_more(self):
        self.assertEqual(bracket_by_leaving(plain_drawing(Web(JUST)), list(range(13))).span(), 52)
        check_raised(self, ("TooMany", {"what": "trees", "limit": 400}), bracket_by_leaving, plain_drawing(Web(MORE)),
                     list(range(13)))
        for value in wrong_orders(13):
            check_raised(self, ("InvalidOrder", {"value": value}), bracket_by_leaving, plain_drawing(Web(MORE)), value)

    def test_wrong_values(self):
        check_wrong(self, bracket_by_leaving, {"drawing": made((THREE, (1, 1, -1))), "order": [2, 0, 1]}, {
            "drawing": plain(NO_DRAWINGS, "InvalidDrawing"), "order": plain(wrong_orders(3), "InvalidOrder")})
        for value in ([0], None, {}, set()):
            check_raised(self, ("InvalidOrder", {"value": value}), bracket_by_leaving, plain_drawing(Web(())), value)
        order = [2, 0, 1]
        check_kept(self, bracket_by_leaving, made((THREE, (1, 1, -1))), order)
        self.assertEqual(order, [2, 0, 1])


if __name__ == "__main__":
    unittest.main()
