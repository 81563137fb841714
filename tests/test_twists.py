"""Rows of turns between blocks with the same rings: [7b4], [7b5], RINGS of [4]."""

import unittest
from itertools import permutations

import lot_model
import model
import ring_model
from neverfewer.necklaces import bunches, necklaces
from neverfewer.rings import same_rings
from neverfewer.trees import trees
from neverfewer.twists import is_turn_row, turn_row
from neverfewer.webs import Web, behind
from wrong import KINDS, check_bools, check_kept, check_raised, check_wrong, plain, webs_and
from test_parts import NOT_BLOCK

RING, CROSSED = (2, 6, 0, 5, 7, 3, 1, 4), (4, 6, 7, 5, 0, 3, 1, 2)
NEAR, APART = (8, 11, 10, 9, 7, 3, 1, 4, 2, 5, 0, 6), (4, 11, 7, 9, 10, 3, 1, 8, 2, 5, 0, 6)
PAIR, ROW = lot_model.pair(), lot_model.row()
LARGE = [model.ring(14), model.bunch(14), model.grown(12, 3, 0.8), model.grown(13, 5, 0.2), model.grown(14, 1),
         model.grown(14, 9, 0.7), lot_model.necklace(None, PAIR, None, PAIR, PAIR, None),
         lot_model.beside(ROW, None, ROW, None, ROW, None), lot_model.necklace(lot_model.tall(), None, lot_model.tall(), PAIR),
         lot_model.beside(lot_model.wide(), None, lot_model.wide(), ROW), lot_model.necklace(lot_model.two_by_three(), None, None, PAIR)]


def pairs():
    """Pairs of blocks that rows of turns lead to from one another."""
    for seed, turn in enumerate(model.blocks_up_to(6)):
        yield turn, ring_model.twisted(turn, seed, seed % 6)
    for seed, turn in enumerate(model.block_names(7)[::5]):
        yield turn, ring_model.twisted(turn, seed, 9)


def all_sequences(many, of):
    """Rings, or bunches, of so many ties in all their sequences."""
    for ties in permutations(range(1, many)):
        yield of(many), model.called(of(many), [2 * tie + side for tie in (0,) + ties for side in (0, 1)])


class TurnRow(unittest.TestCase):

    def check(self, one, other):
        told = turn_row(Web(one), Web(other))
        self.assertEqual([type(told), len(told)], [tuple, 2])
        self.assertEqual([type(row) for row in told[0]], [tuple] * len(told[0]))
        self.assertLessEqual(len(told[0]), 200)
        self.assertIs(ring_model.is_turn_row(one, other, told), True)
        self.assertIs(is_turn_row(Web(one), Web(other), told), True)
        self.assertEqual([type(told[0]), type(told[1])], [list, list])

    def test_where_turns_lead(self):
        for one, other in pairs():
            self.check(one, other)
            self.check(other, one)

    def test_from_behind(self):
        for turn in model.blocks_up_to(6):
            self.check(turn, model.behind(turn))
            self.check(turn, turn)

    def test_all_pairs_with_the_same_rings(self):
        found = 0
        blocks = [model.scrambled(turn, seed) for many in range(2, 6) for turn in model.block_names(many) for seed in range(4)]
        for one in blocks:
            for other in blocks:
                if len(one) == len(other) and model.rings(one) == model.rings(other):
                    self.check(one, other)
                    found += 1
                else:
                    self.assertIsNone(turn_row(Web(one), Web(other)))
        self.assertGreater(found, len(blocks))

    def test_all_sequences(self):
        for of in (model.ring, model.bunch):
            for many in range(2, 7):
                for one, other in all_sequences(many, of):
                    self.check(one, other)

    def test_large_ones(self):
        for seed, turn in enumerate(LARGE):
            for many in (3, 20):
                luck = ring_model.Random(seed)
                web = turn
                for _ in range(many):
                    ties = luck.choice(parts_of(web))
                    web = model.turned(web, ties, luck.choice("abc"))
                self.check(turn, ring_model.flipped(web, luck))
            self.assertIsNone(turn_row(Web(turn), Web(model.scrambled(LARGE[seed - 1], 5))))

    def test_none_of_unlike_ones(self):
        for one, other in ((RING, NEAR), (NEAR, (2, 11, 10, 5, 7, 9, 1, 8, 4, 3, 0, 6)), (model.ring(4), model.bunch(4))):
            self.assertIsNone(turn_row(Web(one), Web(other)))

    def test_trees_and_pieces(self):
        for one, other in list(pairs())[::4]:
            self.assertIs(same_rings(Web(one), Web(other)), True)
            self.assertEqual(trees(Web(one)), trees(Web(other)))
            # The same necklaces and bunches, but for the sequence of the pieces.
            for rows in (necklaces, bunches):
                told = [sorted(sorted(pieces) for pieces in rows(Web(turn))) for turn in (one, other)]
                self.assertEqual(told[0], told[1])

    def test_wrong_values(self):
        wrong = {"web": webs_and(), "other": webs_and()}
        check_wrong(self, turn_row, {"web": Web(NEAR), "other": Web(APART)}, wrong)
        for web, error, attributes in NOT_BLOCK:
            check_raised(self, (error, attributes), turn_row, web, Web(APART))
            check_raised(self, (error, attributes), turn_row, Web(APART), web)
            check_raised(self, (error, attributes), turn_row, web=web, other=web)
            for value, name, told in plain([None, (), 3], "InvalidWeb"):
                check_raised(self, (name, told), turn_row, web, value)
                check_raised(self, (name, told), turn_row, value, web)
        for one, other in ((RING, CROSSED), (NEAR, APART)):
            self.assertEqual(turn_row(web=Web(one), other=Web(other))[1], turn_row(Web(one), Web(other))[1])
            check_kept(self, turn_row, Web(one), Web(other))


def parts_of(turn):
    """Parts of a large block, read off its pieces one by one."""
    many = len(turn) // 2
    rows = [tuple(range(at, upto)) for at in range(many) for upto in range(at + 1, many + 1)]
    rows += [ties for ties in model.subsets(range(many)) if len(ties) <= 3]
    return [ties for ties in rows if model.is_part(turn, ties)]


class IsTurnRow(unittest.TestCase):

    def test_which_are(self):
        for one, other in list(pairs())[::7]:
            web, rows = Web(one), []
            for ties in model.parts(one):
                for letter in "abcd":
                    for to in ([0, 1], [1, 0]):
                        darts = [2 * tie + side for tie in range(web.many) for side in to]
                        value = ([(ties, letter)], darts)
                        is_one = ring_model.is_turn_row(one, other, value)
                        self.assertIs(is_turn_row(web, Web(other), value), is_one)
                        rows.append(is_one)
        self.assertIs(is_turn_row(web=Web(RING), other=Web(CROSSED), value=([((1, 2), "c")], list(range(8)))), True)

    def test_lists_and_tuples(self):
        rows, darts = turn_row(Web(NEAR), Web(APART))
        for value in ((rows, darts), (tuple(rows), darts), (rows, tuple(darts)), (tuple(rows), tuple(darts))):
            self.assertIs(is_turn_row(Web(NEAR), Web(APART), value), True)
        for value in ([rows, darts], (rows, darts, 0), (rows,), ([list(row) for row in rows], darts),
                      ([(list(ties), letter) for ties, letter in rows], darts), (dict(enumerate(rows)), darts),
                      (rows, dict(enumerate(darts))), (None, darts), (rows, None), (darts, rows)):
            self.assertIs(is_turn_row(Web(NEAR), Web(APART), value), False)

    def test_just_two_hundred(self):
        # Done twice, a turn is nothing.
        for many, is_one in ((0, True), (1, False), (2, True), (200, True), (202, False)):
            value = ([((1, 2), "c")] * many, list(range(8)))
            self.assertIs(is_turn_row(Web(RING), Web(RING), value), is_one)
        # Three unlike letters one after the other are nothing, too.
        for many in (196, 198):
            value = ([((1, 2), "c")] * many + [((1, 2), letter) for letter in "abc"], list(range(8)))
            self.assertIs(is_turn_row(Web(RING), Web(RING), value), many == 196)

    def test_each_tie_keeps_its_number(self):
        # The ring turned round is alike to itself, but not tie by tie.
        round_on = model.carryings(RING, RING)
        self.assertEqual(len(round_on), 8)
        for darts in round_on:
            self.assertIs(is_turn_row(Web(RING), Web(RING), ([], darts)), all(to // 2 == at // 2 for at, to in enumerate(darts)))

    def test_wrong_kinds(self):
        def ask(value):
            return is_turn_row(Web(RING), Web(CROSSED), value)
        darts, row = list(range(8)), ((1, 2), "c")
        self.assertIs(ask(([row], darts)), True)
        check_bools(self, ask, KINDS)
        check_bools(self, ask, [(value, darts) for value in KINDS] + [([row], value) for value in KINDS])
        check_bools(self, ask, [([value], darts) for value in KINDS] + [([(value, "c")], darts) for value in KINDS])
        check_bools(self, ask, [([((1, 2), value)], darts) for value in KINDS])
        check_bools(self, ask, [
            ([((2, 1), "c")], darts), ([((1, 2), "C")], darts), ([((1, 2), "")], darts), ([((1, 2), "cc")], darts),
            ([((True, 2), "c")], darts), ([((1, 2), "c", 0)], darts), ([((1, 2),)], darts), ([((0, 1, 2, 3), "c")], darts),
            ([((), "c")], darts), ([((1, 4), "c")], darts), ([((1, 2), "d")], darts), ([((1, 2), b"c")], darts),
            ([((0, 2), "c"), ((1, 2), "c")], darts), ([row], [False, True] + darts[2:]), ([row], darts[:-1]),
            ([row], darts + [8]), ([row], darts[::-1]), ([row, row], darts), ([row], [1, 0] + darts[2:]), ([], darts)])
        # Turned by "c", the rest of a part does what the part does.
        self.assertIs(ask(([((0, 3), "c")], darts)), True)

    def test_wrong_values(self):
        wrong = {"web": webs_and(), "other": webs_and()}
        check_wrong(self, is_turn_row, {"web": Web(NEAR), "other": Web(APART), "value": ()}, wrong)
        for web, error, attributes in NOT_BLOCK:
            check_raised(self, (error, attributes), is_turn_row, web, Web(APART), ())
            check_raised(self, (error, attributes), is_turn_row, Web(APART), web, None)
            check_raised(self, ("InvalidWeb", {"value": None}), is_turn_row, web, None, ())

    def test_example(self):
        self.assertIs(is_turn_row(Web(NEAR), Web(APART), ([((1, 2, 4), "c")], list(range(12)))), True)
        self.assertIs(is_turn_row(Web(NEAR), behind(Web(NEAR)), ([((1, 2, 3, 4, 5), "a")], list(range(12)))), True)


if __name__ == "__main__":
    unittest.main()
