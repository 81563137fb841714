"""Lots of blocks: [9], [4b1], [4b4]."""

import unittest

import lot_model
import model
from neverfewer.flypes import little_flypes
from neverfewer.lots import lot
from neverfewer.names import are_alike, name
from neverfewer.webs import Web, about, behind
from wrong import KINDS, check_kept, check_raised, check_wrong, plain, webs_and
from test_gathered import GATHERED, SCATTERED, TRIANGLES
from test_parts import NOT_BLOCK

NEAR, APART = (8, 11, 10, 9, 7, 3, 1, 4, 2, 5, 0, 6), (2, 11, 10, 5, 7, 9, 1, 8, 4, 3, 0, 6)
BLOCKS = model.blocks_up_to(6) + model.block_names(7)[::2] + [NEAR, APART]
FORTY = (2, 17, 0, 4, 22, 1, 5, 19, 10, 12, 13, 14, 16, 8, 6, 9, 3, 11, 15, 21, 18, 23, 20, 7)
MANY = (21, 13, 18, 22, 6, 3, 1, 5, 10, 12, 8, 14, 15, 17, 2, 9, 19, 4, 11, 16, 7, 23, 20, 0)
WRONG_LIMITS = [value for value in KINDS if value != 10 ** 29] + [0, -1, 41, 100, -40, 10 ** 29, "1", "40", [1], (1,)]


def lot_by_little(turn):
    """The names to which little flypes and looks from behind lead, as many as there are."""
    found = {model.name(turn): True}
    todo = list(found)
    for here in todo:
        web = Web(here)
        made = [model.flyped(here, tie, ties) for tie, ties in little_flypes(web)] + [model.behind(here)]
        for one in map(model.name, made):
            if one not in found:
                found[one] = True
                todo.append(one)
    return sorted(found)


class Lots(unittest.TestCase):

    def test_all_names(self):
        for turn in BLOCKS:
            told = lot(Web(turn), 40)
            self.assertEqual(told, list(lot_model.lot(model.name(turn))))
            self.assertEqual([type(told)] + [type(one) for one in told], [list] + [tuple] * len(told))
            self.assertIn(model.name(turn), told)

    def test_the_same_for_all_blocks_of_it(self):
        for turn in BLOCKS[::3]:
            told = lot(Web(turn), 40)
            for one in told:
                self.assertEqual(lot(Web(one), 40), told)
                self.assertEqual(lot(behind(Web(one)), 40), told)

    def test_as_many_ties_places_faces(self):
        for turn in BLOCKS[::2] + GATHERED[:5]:
            web = Web(turn)
            for one in lot(web, 40):
                other = Web(one)
                self.assertEqual([other.many, len(other.places()), len(other.faces())],
                                 [web.many, len(web.places()), len(web.faces())])

    def test_turned_about(self):
        for turn in BLOCKS[::2]:
            names = sorted({name(about(Web(one))) for one in lot(Web(turn), 40)})
            self.assertEqual(lot(about(Web(turn)), 40), names)

    def test_more_than_one_name(self):
        many = 0
        for turn in BLOCKS:
            web = Web(turn)
            if len(lot(web, 40)) > 1:
                many += 1
                self.assertTrue(little_flypes(web) or not are_alike(web, behind(web)))
        self.assertGreater(many, 3)

    def test_just_at_the_limit(self):
        sizes = set()
        for turn in BLOCKS[::2] + SCATTERED[:4] + GATHERED[:6]:
            names = lot_by_little(turn)
            sizes.add(len(names))
            for limit in (1, 2, len(names) - 1, len(names), len(names) + 1, 39, 40):
                if 1 <= limit <= 40 and len(names) > limit:
                    check_raised(self, ("TooMany", {"what": "charts", "limit": limit}), lot, Web(turn), limit)
                elif 1 <= limit <= 40:
                    self.assertEqual(lot(Web(turn), limit), names)
                    self.assertEqual(lot(web=Web(turn), limit=limit), names)
        self.assertGreater(len(sizes), 5)

    def test_just_forty_and_more(self):
        names = lot_by_little(FORTY)
        self.assertEqual([len(names), lot(Web(FORTY), 40)], [40, names])
        check_raised(self, ("TooMany", {"what": "charts", "limit": 39}), lot, Web(FORTY), 39)
        self.assertEqual(len(lot_by_little(MANY)), 48)
        for limit in (1, 39, 40):
            check_raised(self, ("TooMany", {"what": "charts", "limit": limit}), lot, Web(MANY), limit)

    def test_pairs_and_bare_ties_in_a_ring(self):
        # Pairs and bare ties in a ring: as many names as there are ways to string them, from both sides alike.
        pieces = [None] * 4 + [lot_model.pair()] * 4
        turn = lot_model.necklace(*pieces)
        names = lot_by_little(turn)
        self.assertEqual(len(names), 8)
        self.assertEqual(lot(Web(turn), 8), names)
        check_raised(self, ("TooMany", {"what": "charts", "limit": 7}), lot, Web(turn), 7)

    def test_two_ties_and_bare_rows(self):
        self.assertEqual(lot(Web((3, 2, 1, 0)), 1), [model.name((2, 3, 0, 1))])
        for many in (3, 9, 14):
            for turn in (model.ring(many), model.bunch(many)):
                self.assertEqual(lot(Web(turn), 1), [model.name(turn)])

    def test_examples_told(self):
        self.assertEqual(lot(Web(NEAR), 2), sorted([model.name(NEAR), model.name(APART)]))
        self.assertEqual(lot(Web(TRIANGLES), 2), sorted([model.name(TRIANGLES), model.name(model.behind(TRIANGLES))]))
        for turn in (NEAR, TRIANGLES):
            check_raised(self, ("TooMany", {"what": "charts", "limit": 1}), lot, Web(turn), 1)

    def test_wrong_values(self):
        wrong = {"web": webs_and(*NOT_BLOCK), "limit": plain(WRONG_LIMITS, "InvalidLimit")}
        check_wrong(self, lot, {"web": Web(NEAR), "limit": 2}, wrong)
        # What is more than the limit is told last.
        for value in WRONG_LIMITS:
            check_raised(self, ("InvalidLimit", {"value": value}), lot, Web(MANY), value)
        check_raised(self, ("NotBlock", {}), lot, Web(()), 1)

    def test_new_each_time(self):
        for turn in (NEAR, APART, TRIANGLES, model.ring(5)):
            web = Web(turn)
            check_kept(self, lot, web, 40)
            self.assertEqual(web.turn(), turn)


if __name__ == "__main__":
    unittest.main()
