"""Rows of deeds: [9], [3b3]."""

import unittest
from random import Random

import model
from neverfewer.deeds import deeds_back, deeds_done, is_deeds
from neverfewer.flypes import flyped
from neverfewer.webs import Web, behind
from wrong import KINDS, NO_LISTS, check_bools, check_kept, check_raised, check_wrong, webs_and
from test_parts import NOT_BLOCK

BASE = (9, 2, 1, 6, 3, 7, 4, 10, 5, 11, 8, 0)
BLOCKS = model.blocks_up_to(6) + [BASE, model.grown(8, 2), model.ring(9), model.bunch(8)]
NO_DEEDS = KINDS + [
    ["behind"], "behind", ("behind", 0), ("Behind",), (b"behind",), ("about",), (None,), ((),), (["behind"],),
    ["past", 1, (2, 3)], ("past", 1), ("past", 1, (2, 3), 0), ("past", True, (2, 3)), ("past", 1, [2, 3]),
    ("past", 1, (3, 2)), ("past", 1, (2, 3, 3)), ("past", 1, (2,)), ("past", 0, (2, 3)), ("past", 1, (1, 2, 3)),
    ("past", 1, ()), ("past", 1, None), ("past", 1, 2), ("past", 6, (2, 3)), ("past", -1, (2, 3)),
    ("past", "1", (2, 3)), ("past", None, (2, 3)), ("Past", 1, (2, 3)), (1, (2, 3)), ("past", (2, 3), 1),
    ("past", 10 ** 29, (2, 3)), ("past", 1, ("2", 3)), ("past", 1, (2, None)), ("behind", 1, (2, 3)),
    ("past", 5, (False,)), ("past", 0, (True,)), ("past", False, (1,)), (b"past", 1, (2, 3)), ("past",),
]


def row_of(turn, seed, many):
    """Deeds that can be done one behind the other, and the turns that they lead to."""
    luck, deeds, turns = Random(seed), [], [turn]
    for _ in range(many):
        choices = [("behind",)] + [("past", tie, ties) for tie, ties in model.flypes(turns[-1])]
        deeds.append(luck.choice(choices))
        turns.append(model.deed_done(turns[-1], deeds[-1]))
    return deeds, turns


class Deeds(unittest.TestCase):

    def test_done(self):
        for seed, turn in enumerate(BLOCKS):
            deeds, turns = row_of(turn, seed, 4)
            self.assertIs(is_deeds(Web(turn), deeds), True)
            told = deeds_done(Web(turn), deeds)
            self.assertEqual([one.turn() for one in told], turns)
            self.assertEqual(told, [Web(one) for one in turns])
            self.assertIs(type(told), list)
            self.assertEqual(deeds_done(web=Web(turn), deeds=tuple(deeds)), told)
            self.assertIs(is_deeds(web=Web(turn), value=tuple(deeds)), True)

    def test_single_ones(self):
        for turn in BLOCKS:
            web = Web(turn)
            self.assertEqual(deeds_done(web, [("behind",)]), [web, behind(web)])
            for tie, ties in model.flypes(turn):
                self.assertEqual(deeds_done(web, [("past", tie, ties)]), [web, flyped(web, tie, ties)])

    def test_backward_they_lead_back(self):
        for seed, turn in enumerate(BLOCKS):
            web = Web(turn)
            deeds, turns = row_of(turn, seed + 50, 5)
            back = deeds_back(web, deeds)
            self.assertEqual([type(back), back], [list, deeds[::-1]])
            self.assertEqual(deeds_back(web, tuple(deeds)), deeds[::-1])
            self.assertEqual([one.turn() for one in deeds_done(Web(turns[-1]), back)], turns[::-1])

    def test_none(self):
        for turn in BLOCKS[::5]:
            for value in ([], ()):
                web = Web(turn)
                self.assertIs(is_deeds(web, value), True)
                self.assertEqual([deeds_done(web, value), deeds_back(web, value)], [[web], []])
                self.assertIs(type(deeds_back(web, value)), list)

    def test_each_is_asked_of_the_block_as_it_then_is(self):
        base = Web(BASE)
        apart = flyped(base, 1, (2, 3))
        self.assertEqual([is_deeds(base, [("past", 0, (1,))]), is_deeds(apart, [("past", 0, (1,))])], [True, False])
        deeds = [("past", 1, (2, 3)), ("past", 0, (1,))]
        self.assertIs(is_deeds(base, deeds), False)
        check_raised(self, ("InvalidDeeds", {"position": 1}), deeds_done, base, deeds)
        check_raised(self, ("InvalidDeeds", {"position": 1}), deeds_back, base, deeds)
        both = [deeds[0], deeds[0], deeds[1]]
        self.assertEqual(len(deeds_done(base, both)), 4)

    def test_many(self):
        deeds = [("past", 1, (2, 3)), ("behind",)] * 100
        told = deeds_done(Web(BASE), deeds)
        self.assertEqual([len(told), told[4], told[200]], [201, Web(BASE), Web(BASE)])

    def test_what_cannot_be_done(self):
        base = Web(BASE)
        self.assertIs(is_deeds(base, [("past", 1, (2, 3))]), True)
        for value in NO_DEEDS:
            self.assertIs(is_deeds(base, [value]), False, value)
            self.assertIs(is_deeds(base, (("behind",), value)), False, value)
            for call in (deeds_done, deeds_back):
                check_raised(self, ("InvalidDeeds", {"position": 0}), call, base, [value])
                check_raised(self, ("InvalidDeeds", {"position": 0}), call, base, (value, None))
                check_raised(self, ("InvalidDeeds", {"position": 2}), call, base, [("behind",)] * 2 + [value, value])
                check_raised(self, ("InvalidDeeds", {"position": 2}), call, web=base, deeds=[("behind",)] * 2 + [value])

    def test_any_value(self):
        check_bools(self, lambda value: is_deeds(Web(BASE), value), NO_LISTS + [
            ("behind",), ("past", 1, (2, 3)), "behind", [[("behind",)]], (("behind",), ["behind"]), [()], {"behind"}])

    def test_no_lists(self):
        for value in NO_LISTS:
            for call in (deeds_done, deeds_back):
                check_raised(self, ("InvalidDeeds", {"position": 0}), call, Web(BASE), value)

    def test_wrong_values(self):
        wrong = {"web": webs_and(*NOT_BLOCK), "deeds": [
            (value, "InvalidDeeds", {"position": 0}) for value in NO_LISTS + [[None], [("past", 0, (0,))]]]}
        for call in (deeds_done, deeds_back):
            check_wrong(self, call, {"web": Web(BASE), "deeds": [("behind",)]}, wrong)
        check_wrong(self, is_deeds, {"web": Web(BASE), "value": None}, {"web": webs_and(*NOT_BLOCK)})

    def test_new_each_time(self):
        web, deeds = Web(BASE), [("past", 1, (2, 3)), ("behind",)]
        for call in (deeds_done, deeds_back, is_deeds):
            check_kept(self, call, web, deeds)
            check_kept(self, call, web, [])
        back = deeds_back(web, deeds)
        back.append(None)
        self.assertEqual([deeds, web.turn()], [[("past", 1, (2, 3)), ("behind",)], BASE])


if __name__ == "__main__":
    unittest.main()
