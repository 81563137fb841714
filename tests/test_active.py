"""Inner and outer ties, the table, the bracket by trees: [6b2], [6b3]."""

import unittest
from itertools import permutations
from random import Random

import cord_model
import model
from neverfewer.active import active, bracket_by_trees, table
from neverfewer.drawings import Drawing, plain_drawing
from neverfewer.laurent import Laurent
from neverfewer.states import bracket
from neverfewer.trees import trees
from neverfewer.webs import Web, about
from wrong import KINDS, check_kept, check_raised, check_wrong, plain, webs_and
from test_drawings import NO_DRAWINGS, THREE, made
from test_states import DRAWINGS, wrong_ties
from test_trees import JUST, MORE

WEBS = model.webs_up_to(3) + [model.scrambled(turn, seed) for seed, turn in enumerate(model.names(4)[::3])]
WEBS += [model.grown(6, 3), model.ring(6), model.joined(model.ring(3), 1, model.bunch(3), 4)]


def orders(many, seed, how_many=3):
    found = [list(range(many)), list(range(many))[::-1]]
    for at in range(how_many):
        row = list(range(many))
        Random(seed * 7 + at).shuffle(row)
        found.append(row)
    return found


def wrong_orders(many):
    """Values that are no orders of so many ties."""
    row = list(range(many))
    good = (row, tuple(row))
    return [value for value in KINDS if value not in good] + [
        row + [many], row[:-1], row[1:] + [many], row[:-1] + [0], [True] + row[1:], row[:1] + [True] + row[2:],
        [False] + row[1:], row[:-1] + ["2"], row[:-1] + [None], [row], "012", dict.fromkeys(row), set(row), [-1] + row[1:],
        row + row, (False,) + tuple(row[1:]), [10 ** 20] + row[1:]]


class Active(unittest.TestCase):

    def each(self):
        for seed, turn in enumerate(WEBS):
            for order in orders(len(turn) // 2, seed):
                for tree in cord_model.trees(turn):
                    yield turn, order, tree

    def test_all_of_them(self):
        for turn, order, tree in self.each():
            told = active(Web(turn), order, tree)
            self.assertEqual(told, cord_model.active(turn, order, tree))
            self.assertEqual([type(told), type(told[0]), type(told[1])], [tuple] * 3)
            self.assertEqual(active(web=Web(turn), order=tuple(order), tree=tree), told)

    def test_turned_about(self):
        for turn, order, tree in self.each():
            outside = tuple(tie for tie in range(len(turn) // 2) if tie not in tree)
            self.assertEqual(active(about(Web(turn)), order, outside), active(Web(turn), order, tree)[::-1])

    def test_loops_and_bridges(self):
        for turn, order, tree in self.each():
            inner, outer = active(Web(turn), order, tree)
            for tie in range(len(turn) // 2):
                if model.is_bridge(turn, tie):
                    self.assertIn(tie, inner)
                if model.is_loop(turn, tie):
                    self.assertIn(tie, outer)

    def test_without_a_limit(self):
        for turn in (MORE, model.ring(14), model.grown(14, 5, 0.4)):
            order = orders(len(turn) // 2, 4)[-1]
            tree = trees(Web(model.ring(14)))[3] if turn == model.ring(14) else None
            for ties in [tree] if tree else self.some_trees(turn):
                inner, outer = active(Web(turn), order, ties)
                self.assertTrue(set(inner) <= set(ties))
                self.assertEqual(set(outer) & set(ties), set())
                self.assertTrue(order[0] in inner + outer)

    def some_trees(self, turn):
        luck, many = Random(3), len(model.places(turn)) - 1
        found = []
        while len(found) < 5:
            ties = tuple(sorted(luck.sample(range(len(turn) // 2), many)))
            if len(cord_model.pieces(turn, ties)) == 1:
                found.append(ties)
        return found

    def test_examples_told(self):
        ring = Web(THREE)
        self.assertEqual([active(ring, [0, 1, 2], tree) for tree in trees(ring)], [((0, 1), ()), ((0,), ()), ((), (0,))])
        self.assertEqual([active(Web(()), [], ()), active(Web((0, 1)), [0], (0,)), active(Web((1, 0)), (0,), ())],
                         [((), ()), ((0,), ()), ((), (0,))])

    def test_wrong_values(self):
        trees_not = [value for value in wrong_ties(3) if value not in ((0, 1), (0, 2), (1, 2))] + [
            (), (0,), (1,), (0, 1, 2), (0, True), [0, 1]]
        check_wrong(self, active, {"web": Web(THREE), "order": [2, 0, 1], "tree": (0, 1)}, {
            "web": webs_and(), "order": plain(wrong_orders(3), "InvalidOrder"), "tree": plain(trees_not, "InvalidTies")})
        six = Web(model.grown(6, 3))
        not_trees = [ties for ties in model.subsets(range(6)) if ties not in trees(six)]
        for value in not_trees:
            check_raised(self, ("InvalidTies", {"value": value}), active, six, list(range(6)), value)
        for value in [value for value in wrong_orders(1) if value not in ([0], (0,), [])] + [[]]:
            check_raised(self, ("InvalidOrder", {"value": value}), active, Web((0, 1)), value, (0,))
        for value in ([0], None, {}, set()):
            check_raised(self, ("InvalidOrder", {"value": value}), active, Web(()), value, ())
        check_raised(self, ("InvalidTies", {"value": []}), active, Web(()), [], [])
        check_kept(self, active, Web(THREE), [2, 0, 1], (0, 1))


class Tables(unittest.TestCase):

    def test_all_of_them(self):
        for seed, turn in enumerate(WEBS):
            for order in orders(len(turn) // 2, seed, 1):
                told = table(Web(turn), order)
                self.assertEqual(told, cord_model.table(turn, order))
                self.assertEqual([type(told)] + [type(row) for row in told], [list] + [tuple] * len(told))
                self.assertTrue(all(type(key) is tuple and type(many) is int and many >= 1 for key, many in told))
                self.assertEqual(table(web=Web(turn), order=tuple(order)), told)
                self.assertEqual(sum(many for key, many in told), len(trees(Web(turn))))

    def test_the_same_for_every_order(self):
        for turn in model.names(4)[::4] + [THREE, (), (0, 1), (1, 0)]:
            told = {repr(table(Web(turn), order)) for order in permutations(range(len(turn) // 2))}
            self.assertEqual(len(told), 1)
        for seed, turn in enumerate([model.grown(many, 2) for many in (7, 9, 11)] + [JUST]):
            told = {repr(table(Web(turn), order)) for order in orders(len(turn) // 2, seed, 1)}
            self.assertEqual(len(told), 1)

    def test_turned_about(self):
        for turn in WEBS + [model.grown(10, 2)]:
            order = list(range(len(turn) // 2))
            there = sorted(((outer, inner), many) for (inner, outer), many in table(Web(turn), order))
            self.assertEqual(table(about(Web(turn)), order), there)

    def test_just_four_hundred_and_more(self):
        self.assertEqual(sum(many for key, many in table(Web(JUST), list(range(13)))), 400)
        told = ("TooMany", {"what": "trees", "limit": 400})
        check_raised(self, told, table, Web(MORE), list(range(13)))
        check_raised(self, told, bracket_by_trees, plain_drawing(Web(MORE)), list(range(13)))
        for value in wrong_orders(13):
            check_raised(self, ("InvalidOrder", {"value": value}), table, Web(MORE), value)
            check_raised(self, ("InvalidOrder", {"value": value}), bracket_by_trees, plain_drawing(Web(MORE)), value)

    def test_wrong_values(self):
        check_wrong(self, table, {"web": Web(THREE), "order": (2, 0, 1)}, {
            "web": webs_and(), "order": plain(wrong_orders(3), "InvalidOrder")})
        order = [2, 0, 1]
        check_kept(self, table, Web(THREE), order)
        self.assertEqual(order, [2, 0, 1])


class BracketByTrees(unittest.TestCase):

    def test_by_what_ties_weigh(self):
        for seed, turn in enumerate(WEBS):
            drawing = (turn, cord_model.some_marks(turn, seed))
            for order in orders(len(turn) // 2, seed, 1):
                told = bracket_by_trees(made(drawing), order)
                self.assertIs(type(told), Laurent)
                self.assertEqual(dict(told.terms()), cord_model.bracket_by_trees(drawing, order))
                self.assertEqual(bracket_by_trees(drawing=made(drawing), order=tuple(order)), told)

    def test_it_is_the_bracket(self):
        for seed, drawing in enumerate(DRAWINGS):
            for order in orders(len(drawing[1]), seed, 1):
                self.assertEqual(bracket_by_trees(made(drawing), order), bracket(made(drawing)))
        for many in (9, 10):
            turn = model.grown(many, 4)
            for seed in range(2):
                drawing = made((turn, cord_model.some_marks(turn, seed)))
                self.assertEqual(bracket_by_trees(drawing, orders(many, seed)[-1]), bracket(drawing))

    def test_more_than_ten_ties(self):
        for turn in (model.ring(14), model.star(14), JUST):
            many = len(turn) // 2
            drawing = Drawing(Web(turn), cord_model.some_marks(turn, 1))
            found = [bracket_by_trees(drawing, order) for order in orders(many, 2)[:3]]
            self.assertEqual([found[1], found[2]], [found[0]] * 2)
        self.assertEqual(bracket_by_trees(plain_drawing(Web(JUST)), range_of(13)).span(), 52)

    def test_wrong_values(self):
        check_wrong(self, bracket_by_trees, {"drawing": made((THREE, (1, 1, -1))), "order": [2, 0, 1]}, {
            "drawing": plain(NO_DRAWINGS, "InvalidDrawing"), "order": plain(wrong_orders(3), "InvalidOrder")})
        self.assertEqual(bracket_by_trees(plain_drawing(Web(())), []), Laurent(0, [1]))
        order = [2, 0, 1]
        bracket_by_trees(made((THREE, (1, 1, -1))), order)
        self.assertEqual(order, [2, 0, 1])


def range_of(many):
    return list(range(many))


if __name__ == "__main__":
    unittest.main()
