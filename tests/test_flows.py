"""Flows and their tables: [8a1], [8a2]."""

import unittest
from itertools import product

import cord_model
import model
import ring_model
from neverfewer.flows import flow_rows, flow_table, is_tree
from neverfewer.trees import trees, trees_many
from neverfewer.webs import Web
from wrong import KINDS, check_bools, check_kept, check_raised, check_wrong, plain, webs_and
from test_drawings import THREE
from test_states import wrong_ties

WEBS = model.webs_up_to(4) + [model.scrambled(turn, seed) for seed, turn in enumerate(model.names(5)[::9])]
WEBS += [model.grown(6, 3), model.ring(7), model.bunch(6), model.joined(model.ring(3), 1, model.bunch(3), 4)]
PAIRS = (11, 2, 1, 4, 6, 8, 3, 5, 10, 0, 7, 9)
# Of rank 6, and of rank 7; of 14 ties and of rank 6.
SIX = [model.bunch(7), model.grown(9, 0, 0.3), model.about(model.star(6)), model.grown(11, 1, 0.3)]
SEVEN = [model.bunch(8), model.about(model.star(7)), model.bunch(14), model.grown(10, 2, 0.3)]


def each():
    for turn in WEBS:
        for tree in cord_model.trees(turn):
            yield turn, tree


def rank(turn):
    return len(turn) // 2 - len(model.places(turn)) + 1


class IsTree(unittest.TestCase):

    def test_all_of_them(self):
        for turn in WEBS:
            for ties in model.subsets(range(len(turn) // 2)):
                is_one = ties in cord_model.trees(turn)
                self.assertIs(is_tree(Web(turn), ties), is_one)
                self.assertIs(is_tree(web=Web(turn), value=ties), is_one)
                self.assertIs(is_tree(Web(turn), list(ties)), False)

    def test_wrong_kinds(self):
        for turn in (THREE, PAIRS):
            check_bools(self, lambda value: is_tree(Web(turn), value), [
                value for value in wrong_ties(len(turn) // 2) if value not in trees(Web(turn))])
        check_bools(self, lambda value: is_tree(Web(THREE), value), KINDS + [
            (False, 1), (0, True), (True, 2), (1, 0), (0, 1, 2), (0, 3), (-1, 0), (0,), ("0", "1"), (0, 0, 1)])
        check_bools(self, lambda value: is_tree(Web(()), value), [value for value in KINDS if value != ()])
        self.assertIs(is_tree(Web(()), ()), True)

    def test_wrong_values(self):
        check_wrong(self, is_tree, {"web": Web(THREE), "value": (0, 1)}, {"web": webs_and()})


class FlowRows(unittest.TestCase):

    def test_all_of_them(self):
        for turn, tree in each():
            told = flow_rows(Web(turn), tree)
            self.assertEqual(told, ring_model.flow_rows(turn, tree))
            self.assertEqual([type(told)] + [type(row) for row in told], [list] * (len(told) + 1))
            self.assertTrue(all(type(number) is int for row in told for number in row))
            self.assertEqual(flow_rows(web=Web(turn), tree=tree), told)

    def test_they_balance(self):
        for turn, tree in each():
            for row in flow_rows(Web(turn), tree):
                self.assertTrue(ring_model.is_flow(turn, row))

    def test_each_flow_is_a_sum_of_them(self):
        for turn in (THREE, PAIRS, model.bunch(4), (2, 1, 3, 0), model.grown(5, 3)):
            many = len(turn) // 2
            for tree in cord_model.trees(turn)[:4]:
                outside = [tie for tie in range(many) if tie not in tree]
                rows = flow_rows(Web(turn), tree)
                for flow in product((-2, -1, 0, 1), repeat=many):
                    total = [sum(flow[tie] * row[at] for tie, row in zip(outside, rows)) for at in range(many)]
                    self.assertIs(ring_model.is_flow(turn, flow), total == list(flow))

    def test_fourteen_ties(self):
        for turn in (model.ring(14), model.bunch(14), model.star(14), model.about(model.star(14)), model.grown(14, 3)):
            web = Web(turn)
            tree = some_tree(turn)
            told = flow_rows(web, tree)
            self.assertEqual(len(told), rank(turn))
            for tie, row in zip([tie for tie in range(14) if tie not in tree], told):
                self.assertTrue(ring_model.is_flow(turn, row))
                self.assertEqual(row[tie], 1)
                self.assertTrue(all(row[one] == 0 for one in range(14) if one != tie and one not in tree))

    def test_wrong_values(self):
        not_trees = [value for value in wrong_ties(3) if value not in ((0, 1), (0, 2), (1, 2))] + [
            (), (0,), (0, 1, 2), (0, True), [0, 1], (1, 0)]
        for call in (flow_rows, flow_table):
            check_wrong(self, call, {"web": Web(THREE), "tree": (0, 1)}, {
                "web": webs_and(), "tree": plain(not_trees, "InvalidTies")})
            for turn in (PAIRS, model.grown(5, 2)):
                for ties in model.subsets(range(len(turn) // 2)):
                    if ties not in cord_model.trees(turn):
                        check_raised(self, ("InvalidTies", {"value": ties}), call, Web(turn), ties)
            check_kept(self, call, Web(PAIRS), (0, 1, 2))
            check_kept(self, call, Web(()), ())


def some_tree(turn):
    tree = []
    for tie in reversed(range(len(turn) // 2)):
        if len(cord_model.pieces(turn, tree + [tie])) < len(cord_model.pieces(turn, tree)):
            tree.append(tie)
    return tuple(sorted(tree))


class FlowTable(unittest.TestCase):

    def test_all_of_them(self):
        for turn, tree in each():
            told = flow_table(Web(turn), tree)
            self.assertEqual(told, ring_model.table_of(ring_model.flow_rows(turn, tree)))
            self.assertEqual([type(told)] + [type(row) for row in told], [list] * (len(told) + 1))
            self.assertEqual(flow_table(web=Web(turn), tree=tree), told)

    def test_the_determinant(self):
        for turn in WEBS + SIX:
            for tree in [some_tree(turn)]:
                told = flow_table(Web(turn), tree)
                self.assertEqual([len(told), ring_model.determinant(told)], [rank(turn), trees_many(Web(turn))])

    def test_without_rows(self):
        for turn in ((), (0, 1), model.star(14)):
            self.assertEqual(flow_table(Web(turn), tuple(range(len(turn) // 2))), [])

    def test_rank_six_and_seven(self):
        for turn in SIX:
            self.assertEqual(rank(turn), 6)
            self.assertEqual(len(flow_table(Web(turn), some_tree(turn))), 6)
        for turn in SEVEN:
            self.assertGreaterEqual(rank(turn), 7)
            check_raised(self, ("TooMany", {"what": "rank", "limit": 6}), flow_table, Web(turn), some_tree(turn))
            check_raised(self, ("TooMany", {"what": "rank", "limit": 6}), flow_table, web=Web(turn), tree=some_tree(turn))
            for value in (None, tuple(range(len(turn) // 2)), [0], ("0",)):
                check_raised(self, ("InvalidTies", {"value": value}), flow_table, Web(turn), value)
        self.assertEqual([rank(turn) for turn in SEVEN], [7, 7, 13, 7])


if __name__ == "__main__":
    unittest.main()
