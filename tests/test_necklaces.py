"""Necklaces and bunches: [10], [3a2]."""

import unittest

import model
from neverfewer.necklaces import bunches, necklaces
from neverfewer.webs import Web, about, behind
from wrong import check_kept, check_wrong, webs_and

BLOCKS = model.blocks_in_plenty() + [model.grown(many, seed, 0.6) for many in range(8, 15) for seed in range(4)]
NO_BLOCKS = [(), (0, 1), (1, 0), (2, 1, 3, 0), (6, 3, 0, 1, 2, 7, 4, 5), model.star(5)]


class Necklaces(unittest.TestCase):

    def test_all_of_them(self):
        for turn in BLOCKS:
            self.assertEqual(necklaces(Web(turn)), model.necklaces(turn))
            self.assertEqual(bunches(Web(turn)), model.bunches(turn))

    def test_kinds_of_what_is_told(self):
        for turn in BLOCKS[::5]:
            for told in (necklaces(Web(turn)), bunches(Web(turn))):
                self.assertIs(type(told), list)
                for row in told:
                    self.assertEqual({type(row)} | {type(piece) for piece in row}, {tuple})
                    self.assertTrue(all(type(tie) is int for piece in row for tie in piece))

    def test_each_tie_in_one_piece(self):
        for turn in BLOCKS:
            for row in necklaces(Web(turn)) + bunches(Web(turn)):
                self.assertGreaterEqual(len(row), 3)
                self.assertEqual(sorted(sum(row, ())), list(range(len(turn) // 2)))
                self.assertEqual(row[0], min(row))
                self.assertLess(row[1], row[-1])
                self.assertTrue(all(list(piece) == sorted(piece) for piece in row))

    def test_rings_and_ties_beside_one_another(self):
        for many in range(2, 15):
            bare = tuple((tie,) for tie in range(many))
            for made, told, other in ((model.ring, necklaces, bunches), (model.bunch, bunches, necklaces)):
                web = Web(made(many))
                self.assertEqual([len(told(web)), other(web)], [1 if many > 2 else 0, []])
                if many > 2:
                    self.assertEqual(tuple(sorted(told(web)[0])), bare)

    def test_turned_about_they_are_exchanged(self):
        for turn in BLOCKS:
            web = Web(turn)
            self.assertEqual([necklaces(about(web)), bunches(about(web))], [bunches(web), necklaces(web)])

    def test_from_behind_they_stay(self):
        for turn in BLOCKS:
            web = Web(turn)
            self.assertEqual([necklaces(behind(web)), bunches(behind(web))], [necklaces(web), bunches(web)])

    def test_a_ring_in_its_sequence(self):
        # A ring whose ties are called 0, 2, 4, 1, 3 as they follow one another.
        order = [0, 2, 4, 1, 3]
        turn = model.turn_of([(2 * tie + 1, 2 * order[at - 4]) for at, tie in enumerate(order)])
        self.assertEqual(necklaces(Web(turn)), [((0,), (2,), (4,), (1,), (3,))])
        self.assertEqual(bunches(about(Web(turn))), [((0,), (2,), (4,), (1,), (3,))])

    def test_pairs_in_a_ring(self):
        pairs = Web((11, 2, 1, 4, 6, 8, 3, 5, 10, 0, 7, 9))
        self.assertEqual(necklaces(pairs), [((0,), (1,), (2, 3), (4, 5))])
        self.assertEqual(bunches(pairs), [((0, 1, 2, 3), (4,), (5,)), ((0, 1, 4, 5), (2,), (3,))])
        self.assertEqual(necklaces(web=about(pairs)), bunches(web=pairs))

    def test_firm_blocks_have_none(self):
        four = Web((2, 11, 4, 7, 0, 9, 1, 8, 3, 12, 5, 13, 10, 6))
        self.assertEqual([necklaces(four), bunches(four)], [[], [((0, 1, 2, 3, 4), (5,), (6,))]])

    def test_wrong_values(self):
        wrong = webs_and(*[(Web(turn), "NotBlock", {}) for turn in NO_BLOCKS])
        for call in (necklaces, bunches):
            check_wrong(self, call, {"web": Web(model.ring(3))}, {"web": wrong})

    def test_new_each_time(self):
        for turn in BLOCKS[::7]:
            check_kept(self, necklaces, Web(turn))
            check_kept(self, bunches, Web(turn))


if __name__ == "__main__":
    unittest.main()
