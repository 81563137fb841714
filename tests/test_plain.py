"""Plain names, and which blocks are ONE: [9], [4a3], [4a4], and the guarantee ONE of [4]."""

import unittest
from random import Random

import lot_model
import model
from neverfewer.flypes import flyped, flypes
from neverfewer.gathered import gathering, is_gathered, leads, led
from neverfewer.deeds import deeds_done
from neverfewer.lots import lot
from neverfewer.names import are_alike, name
from neverfewer.plain import are_one, plain
from neverfewer.turns import turned
from neverfewer.webs import Web, about, behind
from wrong import check_kept, check_raised, check_wrong, webs_and
from test_gathered import APART, BASE, GATHERED, ODD, SCATTERED, TRIANGLES
from test_parts import NOT_BLOCK

BLOCKS = model.blocks_up_to(6) + model.block_names(7)
LARGE = [turn for turn in SCATTERED + GATHERED if len(turn) < 26] + [model.grown(many, 0, 0.6) for many in range(8, 13)]
LARGE += SCATTERED[:3] + GATHERED[8:9]


def wandered(turn, seed, many=6):
    """A block to which some deeds lead."""
    luck, web = Random(seed), Web(turn)
    for _ in range(many):
        choices = flypes(web)
        web = behind(web) if not choices or luck.random() < 0.2 else flyped(web, *luck.choice(choices))
    return model.scrambled(web.turn(), seed)


class Plain(unittest.TestCase):

    def test_the_name_of_a_gathered_block_of_the_lot(self):
        for turn in BLOCKS:
            told = plain(Web(turn))
            self.assertIs(type(told), tuple)
            self.assertIn(told, lot_model.lot(model.name(turn)))
            self.assertTrue(lot_model.is_gathered(told))
            self.assertEqual(name(Web(told)), told)

    def test_equal_just_if_deeds_lead_from_one_to_the_other(self):
        lots = {}
        for turn in BLOCKS:
            lots.setdefault(lot_model.lot(model.name(turn)), set()).add(plain(Web(turn)))
        self.assertEqual({len(names) for names in lots.values()}, {1})
        self.assertEqual(len({names for row in lots.values() for names in row}), len(lots))
        self.assertGreater(len([names for names in lots if len(names) > 1]), 3)

    def test_blocks_of_eight_ties(self):
        lots = {}
        for turn in model.block_names(8)[::8]:
            lots.setdefault(lot_model.lot(turn), set()).add(plain(Web(turn)))
            for other in lot_model.lot(turn):
                self.assertIn(plain(Web(other)), lots[lot_model.lot(turn)])
        self.assertEqual({len(names) for names in lots.values()}, {1})
        self.assertEqual(len({names for row in lots.values() for names in row}), len(lots))

    def test_all_blocks_of_a_lot_have_one(self):
        for seed, turn in enumerate(LARGE):
            other = wandered(turn, seed)
            self.assertEqual(plain(Web(other)), plain(Web(turn)))
            self.assertEqual([plain(behind(Web(turn))), plain(Web(plain(Web(turn))))], [plain(Web(turn))] * 2)
            self.assertTrue(lot_model.is_gathered(plain(Web(turn))))

    def test_a_gathered_block_that_deeds_lead_to(self):
        for turn in LARGE[::2]:
            last = deeds_done(Web(turn), gathering(Web(turn)))[-1]
            self.assertIs(is_gathered(last), True)
            self.assertEqual(plain(last), plain(Web(turn)))
            for bare, piece in leads(last)[:3]:
                self.assertEqual(plain(led(last, bare, piece)), plain(Web(turn)))

    def test_parts_turned(self):
        for turn in model.block_names(7)[::3]:
            for ties in model.parts(turn)[::9]:
                for letter in "abc":
                    other = turned(Web(turn), ties, letter)
                    told = model.name(other.turn()) in lot_model.lot(turn)
                    self.assertIs(are_one(Web(turn), other), told)
                    self.assertEqual(plain(Web(turn)) == plain(other), told)

    def test_two_ties(self):
        for turn in ((2, 3, 0, 1), (3, 2, 1, 0)):
            self.assertEqual(plain(Web(turn)), name(Web((2, 3, 0, 1))))
            self.assertIs(are_one(Web(turn), Web((2, 3, 0, 1))), True)
            self.assertIs(are_one(Web(turn), Web(model.ring(3))), False)

    def test_wrong_values(self):
        check_wrong(self, plain, {"web": Web(BASE)}, {"web": webs_and(*NOT_BLOCK)})
        for turn in (BASE, TRIANGLES, model.ring(4)):
            check_kept(self, plain, Web(turn))


class AreOne(unittest.TestCase):

    def test_each_with_each(self):
        for many, step in ((4, 1), (5, 1), (6, 1), (7, 4)):
            for one in model.block_names(many)[::step]:
                for other in model.block_names(many)[::step]:
                    told = other in lot_model.lot(one)
                    self.assertIs(are_one(Web(one), Web(model.scrambled(other, many))), told)

    def test_of_other_sizes(self):
        turns = [turn for many in range(2, 7) for turn in model.block_names(many)]
        for one in turns[::2]:
            for other in turns:
                if len(one) != len(other):
                    self.assertIs(are_one(Web(one), Web(other)), False)

    def test_what_deeds_lead_to(self):
        for seed, turn in enumerate(LARGE[1::2]):
            web, other = Web(turn), Web(wandered(turn, seed + 9))
            self.assertEqual([are_one(web, other), are_one(other, web), are_one(web, web)], [True] * 3)
            self.assertIs(are_one(web=web, other=behind(other)), True)
            self.assertIs(are_one(about(web), about(other)), True)

    def test_led_past_a_part_of_five_ties(self):
        for many, told in ((1, True), (2, False), (3, True), (4, False)):
            turn = lot_model.necklace(*[None] * many, ODD, ODD)
            web = Web(turn)
            pieces = [row for row in model.necklaces(turn)[0] if len(row) == 5]
            self.assertEqual([web.many, len(pieces)], [10 + many, 2])
            for ties in pieces:
                other = turned(web, ties, "a")
                self.assertIs(are_one(web, other), told)
                self.assertIs(are_alike(web, other), False)
                self.assertEqual(plain(web) == plain(other), told)

    def test_a_prism_with_a_tie_across(self):
        web = Web(TRIANGLES)
        self.assertEqual([leads(web), are_one(web, behind(web)), are_alike(web, behind(web))], [[], True, False])

    def test_pairs_in_a_ring(self):
        self.assertEqual([are_one(Web(BASE), Web(APART)), are_alike(Web(BASE), Web(APART))], [True, False])
        self.assertIs(are_one(Web(BASE), Web((2, 3, 0, 1))), False)

    def test_just_if_a_name_is_in_the_lot(self):
        for turn in model.block_names(6) + [BASE, APART]:
            names = lot(Web(turn), 40)
            for other in model.block_names(6):
                self.assertIs(are_one(Web(turn), Web(other)), other in names)

    def test_wrong_values(self):
        good = {"web": Web(BASE), "other": Web(APART)}
        check_wrong(self, are_one, good, {"web": webs_and(), "other": webs_and(*NOT_BLOCK)})
        check_wrong(self, are_one, good, {"web": webs_and(*NOT_BLOCK)})
        # Both webs are asked ahead of whether they are blocks.
        for value in (None, 5, (), "web"):
            check_raised(self, ("InvalidWeb", {"value": value}), are_one, Web((1, 0)), value)
        check_raised(self, ("NotBlock", {}), are_one, Web((1, 0)), Web(BASE))
        check_kept(self, are_one, Web(BASE), Web(APART))


if __name__ == "__main__":
    unittest.main()
