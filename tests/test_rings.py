"""Rings, even rows, the same rings: [7b1], [7b2], [7b3]."""

import unittest
from random import Random

import cord_model
import model
import ring_model
from neverfewer.ears import is_block
from neverfewer.flypes import flyped, flypes
from neverfewer.parts import parts
from neverfewer.rings import even_rows, rings, same_rings
from neverfewer.turns import turned
from neverfewer.webs import Web, about, behind
from wrong import check_kept, check_wrong, webs_and

WEBS = model.webs_up_to(4) + [model.scrambled(turn, seed) for seed, turn in enumerate(model.names(5)[::3])]
WEBS += [model.grown(many, many) for many in (6, 7, 8)] + [model.ring(8), model.bunch(8), model.star(8)]
WEBS += [model.joined(model.ring(3), 1, model.bunch(4), 2), model.about(model.star(7))]
BLOCKS = [turn for turn in model.blocks_up_to(5) + model.block_names(6)[::2]] + [model.grown(9, 4), model.grown(10, 7)]
LARGE = [model.ring(14), model.bunch(14), model.star(14), model.about(model.star(14)), model.grown(14, 3), model.grown(14, 8)]


def shared(turn):
    """Each set of ties of which an even number is in each even one."""
    even = ring_model.even_ones(turn)
    return [ties for ties in model.subsets(range(len(turn) // 2)) if all(len(set(ties) & set(one)) % 2 == 0 for one in even)]


class Rings(unittest.TestCase):

    def test_all_of_them(self):
        for turn in WEBS:
            told = rings(Web(turn))
            self.assertEqual(told, model.rings(turn))
            self.assertEqual([type(told)] + [type(ties) for ties in told], [list] + [tuple] * len(told))
            self.assertEqual(rings(web=Web(turn)), told)

    def test_fourteen_ties(self):
        for turn in LARGE:
            told = rings(Web(turn))
            self.assertEqual(told, sorted(set(told)))
            for ties in told:
                self.assertTrue(cord_model.is_even(turn, ties))
                self.assertEqual(len(model.tie_places(turn, ties)), len(ties))
        self.assertEqual([len(rings(Web(turn))) for turn in LARGE[:4]], [1, 91, 0, 14])

    def test_no_bridge_and_each_other_tie(self):
        for turn in WEBS + LARGE:
            there = {tie for ties in rings(Web(turn)) for tie in ties}
            for tie in range(len(turn) // 2):
                self.assertIs(tie in there, not model.is_bridge(turn, tie))

    def test_blocks_by_rings(self):
        for turn in WEBS:
            many = len(turn) // 2
            free = not any(model.is_loop(turn, tie) or model.is_bridge(turn, tie) for tie in range(many))
            if many >= 2 and free:
                told = rings(Web(turn))
                each = all(any(one in ties and two in ties for ties in told) for one in range(many) for two in range(many))
                self.assertIs(is_block(Web(turn)), each)

    def test_even_ones_are_sums(self):
        for turn in WEBS:
            found = {()}
            for ties in rings(Web(turn)):
                found |= {ring_model.sum_of(one, ties) for one in found}
            self.assertEqual(sorted(found), sorted(ring_model.even_ones(turn)))

    def test_from_behind(self):
        for turn in WEBS + LARGE:
            self.assertEqual(rings(behind(Web(turn))), rings(Web(turn)))

    def test_turns_and_flypes(self):
        for turn in BLOCKS:
            web = Web(turn)
            for ties in parts(web)[::4]:
                for letter in "abc":
                    self.assertEqual(rings(turned(web, ties, letter)), rings(web))
            for tie, ties in flypes(web)[::5]:
                self.assertEqual(rings(flyped(web, tie, ties)), rings(web))

    def test_wrong_values(self):
        for call in (rings, even_rows):
            check_wrong(self, call, {"web": Web(WEBS[20])}, {"web": webs_and()})
            for turn in WEBS[::30] + [()]:
                check_kept(self, call, Web(turn))


class EvenRows(unittest.TestCase):

    def test_all_of_them(self):
        for turn in WEBS:
            told = even_rows(Web(turn))
            self.assertEqual(told, ring_model.even_rows(turn))
            self.assertEqual([type(told)] + [type(ties) for ties in told], [list] + [tuple] * len(told))
            self.assertEqual(even_rows(web=Web(turn)), told)

    def test_how_many(self):
        for turn in WEBS + LARGE:
            self.assertEqual(len(even_rows(Web(turn))), len(turn) // 2 - len(model.places(turn)) + 1)

    def test_their_sums(self):
        for turn in WEBS:
            found = [()]
            for ties in even_rows(Web(turn)):
                found += [ring_model.sum_of(one, ties) for one in found]
            self.assertEqual(sorted(found), sorted(ring_model.even_ones(turn)))

    def test_fourteen_ties(self):
        for turn in LARGE:
            told = even_rows(Web(turn))
            self.assertEqual(told, sorted(told))
            heads = [ties[0] for ties in told]
            for ties in told:
                self.assertTrue(cord_model.is_even(turn, ties))
                self.assertEqual([tie for tie in ties if tie in heads], [ties[0]])
            # No sum of them begins elsewhere: the ties that are no heads have no ring.
            others = [tie for tie in range(len(turn) // 2) if tie not in heads]
            self.assertEqual(len(cord_model.pieces(turn, others)), 1)

    def test_turned_about(self):
        for turn in WEBS:
            if len(turn) <= 12:
                cuts = [ties for ties in model.subsets(range(len(turn) // 2)) if cord_model.is_cut(turn, ties)]
                self.assertEqual(sorted(ring_model.even_ones(model.about(turn))), sorted(cuts))
                self.assertEqual(sorted(cuts), sorted(shared(turn)))
                there = even_rows(about(Web(turn)))
                self.assertTrue(all(len(set(one) & set(two)) % 2 == 0 for one in there for two in even_rows(Web(turn))))


class SameRings(unittest.TestCase):

    def test_all_pairs(self):
        webs = [model.scrambled(turn, seed) for many in range(4) for seed, turn in enumerate(model.names(many))]
        for one in webs:
            for other in webs:
                same = len(one) == len(other) and model.rings(one) == model.rings(other)
                self.assertIs(same_rings(Web(one), Web(other)), same)
                self.assertIs(same_rings(web=Web(one), other=Web(other)), same)

    def test_some_of_five_ties(self):
        webs = model.names(5)[::7] + [model.scrambled(turn, 2) for turn in model.names(5)[::7]]
        found = {True: 0, False: 0}
        for one in webs:
            for other in webs:
                same = model.rings(one) == model.rings(other)
                self.assertIs(same_rings(Web(one), Web(other)), same)
                self.assertIs(ring_model.even_rows(one) == ring_model.even_rows(other), same)
                found[same] += 1
        self.assertTrue(all(many > len(webs) for many in found.values()))

    def test_what_keeps_them(self):
        luck = Random(2)
        for turn in WEBS + LARGE:
            self.assertIs(same_rings(Web(turn), behind(Web(turn))), True)
            self.assertIs(same_rings(Web(turn), Web(ring_model.flipped(turn, luck))), True)
        for seed in range(6):
            turn = model.grown(14, seed)
            one = turned(Web(turn), parts(Web(turn))[seed], "c")
            self.assertIs(same_rings(Web(turn), one), True)
            self.assertIs(same_rings(Web(turn), Web(model.scrambled(turn, seed))), False)

    def test_as_many_ties(self):
        # Without rings, webs of unlike numbers of ties have not the same rings.
        self.assertIs(same_rings(Web((0, 1)), Web(())), False)
        self.assertIs(same_rings(Web(model.star(3)), Web(model.star(4))), False)
        self.assertIs(same_rings(Web(model.star(4)), Web(model.star(4)[:0] + tuple(model.hung(model.star(3), 1)))), True)
        self.assertIs(same_rings(Web(()), Web(())), True)
        self.assertIs(same_rings(Web((0, 1)), Web((1, 0))), False)

    def test_wrong_values(self):
        check_wrong(self, same_rings, {"web": Web(WEBS[9]), "other": Web(WEBS[19])}, {"web": webs_and(), "other": webs_and()})


if __name__ == "__main__":
    unittest.main()
