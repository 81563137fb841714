"""The second reading itself: what is known in print of how many webs there are, and of trees."""

import unittest

import model
from test_turns import trees_many


class Model(unittest.TestCase):

    def test_how_many_webs(self):
        self.assertEqual([len(model.names(many)) for many in range(6)], [1, 2, 4, 14, 57, 312])

    def test_how_many_blocks(self):
        self.assertEqual([len(model.block_names(many)) for many in range(2, 8)], [1, 2, 3, 6, 16, 42])
        for many in range(2, 6):
            self.assertEqual(model.block_names(many), [turn for turn in model.names(many) if model.is_block(turn)])

    def test_trees(self):
        self.assertEqual([trees_many(model.ring(many)) for many in range(1, 6)], [1, 2, 3, 4, 5])
        self.assertEqual([trees_many(model.bunch(many)) for many in range(1, 6)], [1, 2, 3, 4, 5])
        self.assertEqual([trees_many(model.star(3)), trees_many((11, 2, 1, 4, 6, 8, 3, 5, 10, 0, 7, 9))], [1, 12])


if __name__ == "__main__":
    unittest.main()
