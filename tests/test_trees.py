"""Trees of webs: [6b1]."""

import unittest

import cord_model
import model
from neverfewer.blocks import block_web, blocks
from neverfewer.edits import shrunk, taken
from neverfewer.parts import parts
from neverfewer.trees import trees, trees_many
from neverfewer.turns import turned
from neverfewer.webs import Web, about, behind, is_bridge, is_loop
from wrong import check_kept, check_raised, check_wrong, webs_and
from test_turns import trees_many as slowly

WEBS = model.webs_up_to(4) + [model.scrambled(turn, seed) for seed, turn in enumerate(model.names(5)[::5])]
LARGE = [model.grown(many, many) for many in range(6, 13)] + [model.ring(14), model.bunch(14), model.star(14)]
# Just 400 trees, and one more.
JUST = (13, 7, 20, 1, 22, 6, 18, 25, 24, 10, 9, 4, 2, 16, 23, 3, 0, 21, 5, 17, 12, 14, 11, 19, 8, 15)
MORE = (15, 6, 14, 18, 20, 13, 21, 16, 23, 19, 2, 1, 22, 5, 10, 8, 4, 0, 3, 25, 7, 11, 24, 17, 12, 9)
FIVE = model.ring(5)


class Trees(unittest.TestCase):

    def test_all_of_them(self):
        for turn in WEBS:
            told = trees(Web(turn))
            self.assertEqual(told, cord_model.trees(turn))
            self.assertEqual([type(told)] + [type(ties) for ties in told], [list] + [tuple] * len(told))
            self.assertEqual([trees_many(Web(turn)), type(trees_many(Web(turn)))], [len(told), int])
            self.assertEqual(trees_many(web=Web(turn)), len(trees(web=Web(turn))))

    def test_how_many(self):
        for turn in WEBS + LARGE:
            self.assertEqual(trees_many(Web(turn)), slowly(turn))
        for many in range(1, 15):
            self.assertEqual([trees_many(Web(model.ring(many))), trees_many(Web(model.bunch(many)))], [many, many])
            self.assertEqual([trees_many(Web(model.star(many))), trees(Web(model.star(many)))], [1, [tuple(range(many))]])

    def test_one_tie_fewer_than_places(self):
        for turn in WEBS + LARGE:
            web = Web(turn)
            for ties in trees(web):
                self.assertEqual(len(ties), len(web.places()) - 1)
                self.assertEqual(len(cord_model.pieces(turn, ties)), 1)

    def test_loops_and_bridges(self):
        for turn in WEBS:
            web = Web(turn)
            for tie in range(web.many):
                share = [tie in ties for ties in trees(web)]
                if is_loop(web, tie):
                    self.assertEqual(set(share), {False})
                if is_bridge(web, tie):
                    self.assertEqual(set(share), {True})
                if not is_loop(web, tie) and not is_bridge(web, tie):
                    self.assertEqual(trees_many(web), trees_many(taken(web, tie)) + trees_many(shrunk(web, tie)))

    def test_turned_about_and_from_behind(self):
        for turn in WEBS + LARGE:
            web = Web(turn)
            outside = [tuple(tie for tie in range(web.many) if tie not in ties) for ties in trees(web)]
            self.assertEqual(trees(about(web)), sorted(outside))
            self.assertEqual(trees(behind(web)), trees(web))

    def test_the_product_of_blocks(self):
        for turn in WEBS + [model.joined(model.ring(5), 0, model.grown(6, 1), 3)]:
            web, whole = Web(turn), 1
            for ties in blocks(web):
                whole *= trees_many(block_web(web, ties))
            self.assertEqual(trees_many(web), whole)

    def test_parts_turned(self):
        for turn in model.block_names(6)[::2] + [model.grown(9, 3)]:
            web = Web(turn)
            for ties in parts(web)[::3]:
                for letter in "abc":
                    self.assertEqual(trees(turned(web, ties, letter)), trees(web))

    def test_no_ties(self):
        self.assertEqual([trees(Web(())), trees_many(Web(()))], [[()], 1])
        self.assertEqual([trees(Web((0, 1))), trees(Web((1, 0)))], [[(0,)], [()]])

    def test_just_four_hundred_and_more(self):
        self.assertEqual([slowly(JUST), slowly(MORE)], [400, 401])
        for turn in (JUST, model.about(JUST), model.behind(JUST)):
            self.assertEqual([len(trees(Web(turn))), trees_many(Web(turn))], [400, 400])
        for turn in (MORE, model.about(MORE), model.behind(MORE), model.joined(FIVE, 0, model.grown(9, 3), 0)):
            self.assertGreater(slowly(turn), 0)
            self.assertEqual(trees_many(Web(turn)), slowly(turn))
            if slowly(turn) > 400:
                check_raised(self, ("TooMany", {"what": "trees", "limit": 400}), trees, Web(turn))
                check_raised(self, ("TooMany", {"what": "trees", "limit": 400}), trees, web=Web(turn))

    def test_wrong_values(self):
        for call in (trees, trees_many):
            check_wrong(self, call, {"web": Web(FIVE)}, {"web": webs_and()})
            check_kept(self, call, Web(FIVE))
            check_kept(self, call, Web(()))


if __name__ == "__main__":
    unittest.main()
