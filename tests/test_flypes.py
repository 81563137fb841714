"""Flypes and little flypes, and what a flype makes: [9], [3b1], [3b2], [3b4]."""

import unittest

import model
from neverfewer.ears import is_block
from neverfewer.flypes import flyped, flypes, is_flype, little_flypes
from neverfewer.names import are_alike
from neverfewer.parts import parts, rest
from neverfewer.turns import turned
from neverfewer.webs import Web, about, behind
from wrong import KINDS, check_bools, check_kept, check_raised, check_wrong, no_counts, plain, webs_and
from test_parts import NOT_BLOCK, wrong_parts
from test_turns import trees_many

BASE = (9, 2, 1, 6, 3, 7, 4, 10, 5, 11, 8, 0)
APART = (9, 4, 7, 10, 6, 2, 1, 5, 3, 11, 8, 0)
TRIANGLES = (18, 2, 14, 4, 16, 0, 11, 19, 7, 17, 9, 13, 5, 6, 1, 8, 3, 10, 12, 15)
SMALL = model.blocks_in_plenty() + [BASE, APART, model.grown(8, 2), model.grown(9, 4)]
LARGE = [model.grown(many, seed, 0.55) for many in range(10, 15) for seed in range(2)]
LARGE += [model.ring(14), model.bunch(14), TRIANGLES]


class Flypes(unittest.TestCase):

    def test_all_of_them(self):
        for turn in SMALL:
            self.assertEqual(flypes(Web(turn)), model.flypes(turn))
            self.assertEqual(little_flypes(Web(turn)), model.little_flypes(turn))

    def test_large_blocks(self):
        for turn in LARGE:
            web = Web(turn)
            every = parts(web)
            told = [(tie, ties) for tie in range(web.many) for ties in every
                    if tie not in ties and model.with_tie(ties, tie) in every]
            self.assertEqual(flypes(web), told)
            little = [(tie, ties) for tie, ties in told if len(ties) > 1 and not any(
                one == tie and set(other) < set(ties) for one, other in told)]
            self.assertEqual(little_flypes(web), little)

    def test_kinds_of_what_is_told(self):
        for turn in SMALL[::6]:
            for told in (flypes(Web(turn)), little_flypes(Web(turn))):
                self.assertIs(type(told), list)
                for pair in told:
                    self.assertEqual([type(pair), type(pair[0]), type(pair[1])], [tuple, int, tuple])

    def test_each_tie_with_each_ties(self):
        for turn in model.blocks_up_to(5) + [BASE]:
            web = Web(turn)
            for tie in range(web.many):
                for ties in model.subsets(range(web.many)):
                    self.assertIs(is_flype(web, tie, ties), model.is_flype(turn, tie, ties))
                    self.assertIs(is_flype(web, tie, list(ties)), False)

    def test_any_value(self):
        for turn in (BASE, (2, 3, 0, 1), model.ring(5)):
            for tie in range(len(turn) // 2):
                check_bools(self, lambda value: is_flype(Web(turn), tie, value), wrong_parts(turn))
        self.assertIs(is_flype(web=Web(BASE), tie=1, value=(2, 3)), True)

    def test_examples_told(self):
        web = Web(BASE)
        self.assertEqual([is_flype(web, 1, (2, 3)), is_flype(web, 2, (3,)), is_flype(web, 0, (2, 3))],
                         [True, True, False])
        self.assertEqual([is_flype(web, 2, (0, 1, 4, 5)), (2, (0, 1, 4, 5)) in little_flypes(web),
                          (1, (0, 2, 3)) in little_flypes(web), (2, (3,)) in little_flypes(web)],
                         [True, True, False, False])
        self.assertEqual([model.kind_of(BASE, 1, (2, 3)), model.kind_of(BASE, 2, (3,))], ["row", "beside"])

    def test_a_firm_block_has_none_past_two_ties(self):
        self.assertEqual(flypes(Web(TRIANGLES)), [])
        self.assertEqual(flypes(Web((2, 3, 0, 1))), [])

    def test_from_other_sides(self):
        for turn in SMALL + LARGE:
            web = Web(turn)
            for other in (behind(web), about(web)):
                self.assertEqual([flypes(other), little_flypes(other)], [flypes(web), little_flypes(web)])

    def test_row_and_beside_are_exchanged(self):
        for turn in SMALL:
            for tie, ties in model.flypes(turn):
                kinds = {model.kind_of(turn, tie, ties), model.kind_of(model.about(turn), tie, ties)}
                self.assertEqual(kinds, {"row", "beside"})

    def test_wrong_values(self):
        for call in (flypes, little_flypes):
            check_wrong(self, call, {"web": Web(BASE)}, {"web": webs_and(*NOT_BLOCK)})
        check_wrong(self, is_flype, {"web": Web(BASE), "tie": 5, "value": (4,)}, {
            "web": webs_and(*NOT_BLOCK), "tie": plain(no_counts(6), "InvalidTie")})

    def test_new_each_time(self):
        for turn in SMALL[::11] + [BASE]:
            check_kept(self, flypes, Web(turn))
            check_kept(self, little_flypes, Web(turn))


class Flyped(unittest.TestCase):

    def each(self):
        for turn in SMALL + LARGE:
            web = Web(turn)
            for tie, ties in flypes(web):
                yield turn, web, tie, ties

    def test_all_of_them(self):
        kinds = set()
        for turn, web, tie, ties in self.each():
            self.assertEqual(flyped(web, tie, ties).turn(), model.flyped(turn, tie, ties))
            kinds.add((model.kind_of(turn, tie, ties), min(len(ties), 2)))
        self.assertEqual(len(kinds), 4)

    def test_done_again_it_is_undone(self):
        for turn, web, tie, ties in self.each():
            told = flyped(web, tie, ties)
            self.assertEqual([is_block(told), is_flype(told, tie, ties)], [True, True])
            self.assertEqual(flyped(told, tie, ties), web)

    def test_rings_and_trees_stay(self):
        for turn in model.blocks_up_to(5) + model.block_names(6)[::3] + [BASE, APART]:
            circles, trees = model.rings(turn), trees_many(turn)
            for tie, ties in model.flypes(turn):
                told = flyped(Web(turn), tie, ties).turn()
                self.assertEqual([model.rings(told), trees_many(told)], [circles, trees])

    def test_alike_to_what_turns_make(self):
        for turn, web, tie, ties in self.each():
            letter = {"row": "b", "beside": "a"}[model.kind_of(turn, tie, ties)]
            told = turned(turned(web, model.with_tie(ties, tie), "c"), ties, letter)
            self.assertTrue(are_alike(flyped(web, tie, ties), told))

    def test_past_the_other_ties(self):
        for turn, web, tie, ties in self.each():
            others = tuple(one for one in rest(web, ties) if one != tie)
            self.assertIs(is_flype(web, tie, others), True)
            self.assertEqual(model.kind_of(turn, tie, others), model.kind_of(turn, tie, ties))
            self.assertTrue(are_alike(flyped(web, tie, others), behind(flyped(web, tie, ties))))

    def test_of_the_block_turned_about(self):
        for turn, web, tie, ties in self.each():
            self.assertTrue(are_alike(flyped(about(web), tie, ties), about(flyped(web, tie, ties))))

    def test_examples_told(self):
        base = Web(BASE)
        self.assertEqual(flyped(base, 1, (2, 3)).turn(), APART)
        self.assertEqual(flyped(Web(APART), 1, (2, 3)), base)
        self.assertTrue(are_alike(flyped(base, 2, (3,)), base))
        self.assertTrue(are_alike(flyped(base, 2, (0, 1, 4, 5)), behind(base)))

    def test_a_pair_exchanged(self):
        # Of three ties beside one another two exchange their places, and one of both is turned over.
        web = Web((4, 3, 0, 5, 2, 1))
        self.assertEqual(web.places(), [(0, 4, 2), (1, 3, 5)])
        self.assertEqual(flyped(web, 0, (2,)).places(), [(0, 2, 5), (1, 4, 3)])

    def test_wrong_values(self):
        web = Web(BASE)
        not_flypes = [(tie, ties) for tie in range(6) for ties in parts(web) if not model.is_flype(BASE, tie, ties)]
        self.assertTrue(any(tie in ties for tie, ties in not_flypes))
        self.assertTrue(any(tie not in ties for tie, ties in not_flypes))
        for tie, ties in not_flypes:
            check_raised(self, ("NotFlype", {"tie": tie, "ties": ties}), flyped, web, tie, ties)
            check_raised(self, ("NotFlype", {"tie": tie, "ties": ties}), flyped, web=web, tie=tie, ties=ties)
        wrong = plain(wrong_parts(BASE), "InvalidTies") + [((0,), "NotFlype", {"tie": 5, "ties": (0,)})]
        check_wrong(self, flyped, {"web": web, "tie": 5, "ties": (4,)}, {
            "web": webs_and(*NOT_BLOCK), "tie": plain(no_counts(6), "InvalidTie"), "ties": wrong})
        for turn in ((2, 3, 0, 1), TRIANGLES):
            for ties in ((0,), (1,), tuple(range(1, len(turn) // 2))):
                check_raised(self, ("NotFlype", {"tie": 1, "ties": ties}), flyped, Web(turn), 1, ties)

    def test_new_each_time(self):
        for tie, ties in model.flypes(BASE):
            web = Web(BASE)
            check_kept(self, flyped, web, tie, ties)
            self.assertEqual(web.turn(), BASE)


if __name__ == "__main__":
    unittest.main()
