"""Gathered blocks, gatherings, leads, what a lead makes: [10], [4a1], [4a2]."""

import unittest
from random import Random

import lot_model
import model
from neverfewer.flypes import flyped, flypes
from neverfewer.gathered import gathering, is_gathered, is_gathering, leads, led
from neverfewer.names import are_alike
from neverfewer.turns import turned
from neverfewer.webs import Web, about, behind
from wrong import KINDS, NO_LISTS, check_bools, check_kept, check_raised, check_wrong, webs_and
from test_deeds import NO_DEEDS
from test_parts import NOT_BLOCK

BASE = (9, 2, 1, 6, 3, 7, 4, 10, 5, 11, 8, 0)
APART = (9, 4, 7, 10, 6, 2, 1, 5, 3, 11, 8, 0)
TRIANGLES = (18, 2, 14, 4, 16, 0, 11, 19, 7, 17, 9, 13, 5, 6, 1, 8, 3, 10, 12, 15)
PAIR, TALL, ODD = lot_model.pair(), lot_model.tall(), lot_model.two_by_three()
ROW, WIDE, LONG = lot_model.row(), lot_model.wide(), lot_model.pair_by_three()
SCATTERED = [
    lot_model.necklace(None, PAIR, None, PAIR), lot_model.beside(None, ROW, None, WIDE),
    lot_model.necklace(None, PAIR, None, PAIR, None, TALL), lot_model.beside(None, ROW, None, ROW, None, ROW, None),
    lot_model.necklace(None, None, PAIR, None, PAIR, None, TALL), lot_model.necklace(None, ODD, None, ODD),
    lot_model.necklace(None, TALL, TALL, None, PAIR), lot_model.beside(None, ROW, ROW, ROW, None, ROW),
    lot_model.necklace(None, PAIR, None, PAIR, None, PAIR, None, PAIR, None), lot_model.beside(LONG, None, LONG, None),
    # Within a piece there is one more necklace or bunch that is not gathered.
    lot_model.necklace(None, lot_model.to_set_in(lot_model.beside(None, None, ROW, None, ROW)), None, PAIR),
    lot_model.necklace(PAIR, None, lot_model.to_set_in(lot_model.beside(None, None, ROW, None, WIDE)), None),
]
GATHERED = [
    lot_model.necklace(None, PAIR, PAIR), lot_model.necklace(None, None, PAIR, TALL), lot_model.beside(None, ROW, WIDE),
    lot_model.necklace(None, ODD, ODD), lot_model.necklace(None, None, ODD, TALL), lot_model.beside(None, None, LONG, ROW),
    lot_model.necklace(None, None, None, ODD, PAIR), lot_model.beside(None, None, None, LONG, WIDE),
    lot_model.necklace(PAIR, None, None, TALL, ODD), lot_model.necklace(None, TALL, PAIR, ODD),
    lot_model.necklace(TALL, ODD), lot_model.necklace(PAIR, PAIR, PAIR), lot_model.necklace(None, None, None, ODD),
    lot_model.necklace(None, None, lot_model.to_set_in(lot_model.beside(None, None, WIDE, ROW)), TALL),
]
SMALL = model.blocks_in_plenty() + model.block_names(7) + [model.grown(8, 2), model.grown(9, 4)]
LARGE = [model.grown(many, seed, 0.55) for many in range(10, 15) for seed in range(3)]
LARGE += [model.ring(14), model.bunch(14), TRIANGLES] + SCATTERED + GATHERED
LARGE += [model.scrambled(model.about(turn), 3) for turn in SCATTERED + GATHERED]


def pieces_of(turn):
    """The necklaces and bunches as sets of pieces."""
    return [{frozenset(row) for row in rows} for rows in (model.necklaces(turn), model.bunches(turn))]


class Gathered(unittest.TestCase):

    def test_whether_it_is(self):
        many = [0, 0]
        for turn in SMALL + LARGE:
            told = lot_model.is_gathered(turn)
            self.assertIs(is_gathered(Web(turn)), told)
            many[told] += 1
        self.assertGreater(min(many), 10)

    def test_blocks_put_together(self):
        self.assertEqual({is_gathered(Web(turn)) for turn in SCATTERED}, {False})
        self.assertEqual({is_gathered(Web(turn)) for turn in GATHERED}, {True})
        for turn in ((2, 3, 0, 1), model.ring(3), model.bunch(14), TRIANGLES):
            self.assertIs(is_gathered(Web(turn)), True)

    def test_one_other_piece_is_no_matter(self):
        self.assertIs(is_gathered(Web(lot_model.necklace(None, ODD, None, None))), True)
        self.assertIs(is_gathered(Web(lot_model.necklace(None, ODD, None, PAIR))), False)

    def test_from_other_sides(self):
        for turn in SMALL + LARGE:
            web = Web(turn)
            self.assertEqual([is_gathered(behind(web)), is_gathered(about(web))], [is_gathered(web)] * 2)

    def test_examples_told(self):
        self.assertEqual([is_gathered(Web(BASE)), is_gathered(Web(APART))], [True, False])

    def test_wrong_values(self):
        for call in (is_gathered, gathering):
            check_wrong(self, call, {"web": Web(BASE)}, {"web": webs_and(*NOT_BLOCK)})
        check_wrong(self, is_gathering, {"web": Web(BASE), "value": []}, {"web": webs_and(*NOT_BLOCK)})
        check_kept(self, is_gathered, Web(APART))


class Gatherings(unittest.TestCase):

    def test_each_block_comes_to_a_gathered_one(self):
        for turn in SMALL + LARGE:
            deeds = gathering(Web(turn))
            self.assertIs(type(deeds), list)
            self.assertLessEqual(len(deeds), 40)
            self.assertTrue(all(type(deed) is tuple and deed[0] == "past" for deed in deeds))
            self.assertTrue(lot_model.is_gathering(turn, deeds))
            self.assertIs(is_gathering(Web(turn), deeds), True)
            self.assertIs(is_gathering(Web(turn), tuple(deeds)), True)

    def test_without_deeds_just_if_it_is_gathered(self):
        for turn in SMALL + LARGE:
            for value in ([], ()):
                self.assertIs(is_gathering(Web(turn), value), lot_model.is_gathered(turn))
        self.assertEqual(set(map(len, [gathering(Web(turn)) for turn in SCATTERED])) & {0}, set())

    def test_the_same_pieces_stay(self):
        for turn in SCATTERED + SMALL[::5]:
            here = turn
            for deed in gathering(Web(turn)):
                here = model.deed_done(here, deed)
                self.assertEqual(pieces_of(here), pieces_of(turn))

    def test_rows_of_flypes(self):
        for seed, turn in enumerate(SCATTERED + SMALL[::9] + [BASE]):
            luck, here, deeds = Random(seed), turn, []
            for _ in range(4):
                choices = model.flypes(here) if len(turn) < 20 else flypes(Web(here))
                if choices:
                    tie, ties = luck.choice(choices)
                    deeds.append(("past", tie, ties))
                    here = model.flyped(here, tie, ties)
                self.assertIs(is_gathering(Web(turn), deeds), lot_model.is_gathered(here))
            whole = deeds + gathering(Web(here))
            self.assertIs(is_gathering(web=Web(turn), value=whole), True)

    def test_no_look_from_behind(self):
        base = Web(BASE)
        self.assertIs(is_gathering(base, []), True)
        for value in ([("behind",)], [("behind",), ("behind",)], (("past", 2, (3,)), ("behind",))):
            self.assertIs(is_gathering(base, value), False)
        self.assertIs(is_gathering(base, [("past", 2, (3,)), ("past", 2, (3,))]), True)

    def test_at_most_forty(self):
        twice = [("past", 2, (3,)), ("past", 2, (3,))]
        for many in (19, 20, 21, 30):
            self.assertIs(is_gathering(Web(BASE), twice * many), many <= 20)
        row = [("past", 1, (2, 3))] + twice * 20
        self.assertEqual([is_gathering(Web(APART), row[:many]) for many in (1, 39, 41)], [True, True, False])
        self.assertEqual([is_gathering(Web(APART), row[:many]) for many in (40, 0)], [True, False])

    def test_any_value(self):
        for value in NO_DEEDS:
            for row in ([value], [("past", 2, (3,)), value], (value,)):
                self.assertIs(is_gathering(Web(BASE), row), False, row)
        check_bools(self, lambda value: is_gathering(Web(BASE), value), NO_LISTS + [
            ("past", 2, (3,)), [["past", 2, (3,)]], [("past", 2, [3])], [None], [[]], [()], "past", {("past", 2, (3,))},
            [("past", 0, (2, 3))], [Web(BASE)], [(("behind",),)]])

    def test_new_each_time(self):
        for turn in SCATTERED[:4] + [BASE, APART]:
            web = Web(turn)
            first = gathering(web)
            first.append(None)
            self.assertIs(is_gathering(web, gathering(web)), True)
            deeds = gathering(web)
            before = repr(deeds)
            is_gathering(web, deeds)
            self.assertEqual([repr(deeds), web.turn()], [before, turn])


class Leads(unittest.TestCase):

    def blocks(self):
        return [turn for turn in SMALL[::3] + LARGE[::5] + GATHERED if lot_model.is_gathered(turn)]

    def test_all_of_them(self):
        many = 0
        for turn in self.blocks():
            told = leads(Web(turn))
            self.assertEqual(told, lot_model.leads(turn))
            self.assertIs(type(told), list)
            for pair in told:
                self.assertEqual([type(pair), type(pair[0]), type(pair[1])], [tuple] * 3)
            many += len(told)
        self.assertGreater(many, 100)

    def test_two_for_each_row_of_pieces(self):
        for turn in self.blocks():
            rows = [row for row in lot_model.rows_of(turn) if lot_model.bare_of(row)]
            rows = [row for row in rows if len(row) - len(lot_model.bare_of(row)) >= 2]
            self.assertEqual(len(leads(Web(turn))), 2 * len(rows))

    def test_examples_told(self):
        self.assertEqual(leads(Web(BASE)), [((0, 1), (2, 3)), ((0, 1), (4, 5))])
        self.assertEqual([leads(Web(TRIANGLES)), leads(Web((2, 3, 0, 1))), leads(Web(model.ring(9)))], [[]] * 3)

    def test_what_they_make(self):
        for turn in self.blocks():
            for bare, piece in leads(Web(turn)):
                told = led(Web(turn), bare, piece)
                self.assertIs(type(told), Web)
                self.assertEqual(told.turn(), lot_model.led(turn, bare, piece))
                self.assertEqual(led(web=Web(turn), bare=bare, piece=piece), told)

    def test_gathered_again(self):
        for turn in self.blocks():
            for bare, piece in leads(Web(turn)):
                told = led(Web(turn), bare, piece)
                self.assertIs(is_gathered(told), True)
                self.assertIn((bare, piece), leads(told))
                self.assertEqual(led(told, bare, piece), Web(turn))

    def test_how_the_piece_comes_out(self):
        kinds = set()
        for turn in self.blocks():
            rows = model.necklaces(turn)
            for bare, piece in leads(Web(turn)):
                letter = "b" if any(piece in row and bare[:1] in row for row in rows) else "a"
                kinds.add((letter, len(bare) % 2))
                # All turned by "c" and the piece once more leaves the piece as it was; by "c" and "b" it is as by "a".
                whole = tuple(sorted(bare + piece))
                both = turned(turned(Web(turn), whole, "c"), piece, letter if len(bare) % 2 else "c")
                self.assertTrue(are_alike(led(Web(turn), bare, piece), both))
        self.assertEqual(len(kinds), 4)

    def test_the_nearest_first(self):
        turn = lot_model.necklace(None, None, ODD, PAIR)
        web = Web(turn)
        self.assertEqual({bare for bare, piece in leads(web)}, {lot_model.bare_of(model.necklaces(turn)[0])})
        for bare, piece in leads(web):
            near = [tie for tie in bare if (tie, piece) in flypes(web)]
            far, = [tie for tie in bare if tie not in near]
            told = flyped(flyped(web, near[0], piece), far, piece)
            self.assertEqual([len(near), led(web, bare, piece)], [1, told])

    def test_what_is_not_gathered(self):
        for turn in SCATTERED + [APART]:
            check_raised(self, ("NotGathered", {}), leads, Web(turn))
            for bare, piece in [((0, 1), (2, 3)), (None, None), ((), 5)]:
                check_raised(self, ("NotGathered", {}), led, Web(turn), bare, piece)

    def test_wrong_values(self):
        web = Web(BASE)
        not_gathered = NOT_BLOCK + [(Web(APART), "NotGathered", {})]
        check_wrong(self, leads, {"web": web}, {"web": webs_and(*not_gathered)})
        ties = [value for value in KINDS + [[0, 1], (1, 0), (0, 1, 1), (False, True), (0,), (1,), (2,), (4, 5), (0, 2)]]
        pieces = [value for value in KINDS + [[2, 3], (3, 2), (2, 3, 4), (2,), (0, 1), (2, 4), (1,)]]
        wrong = {"bare": [(value, "NotLead", {"bare": value, "piece": (2, 3)}) for value in ties]}
        check_wrong(self, led, {"web": web, "bare": (0, 1), "piece": (2, 3)}, {"web": webs_and(*not_gathered), **wrong})
        wrong = {"piece": [(value, "NotLead", {"bare": (0, 1), "piece": value}) for value in pieces]}
        check_wrong(self, led, {"web": web, "bare": (0, 1), "piece": (4, 5)}, {"web": webs_and(*not_gathered), **wrong})
        for bare in (True, [0, 1], (0, True)):
            check_raised(self, ("NotLead", {"bare": bare, "piece": None}), led, web, bare, None)
        one = Web(lot_model.necklace(None, PAIR, PAIR))
        bare, piece = leads(one)[0]
        self.assertEqual(bare, (0,))
        check_raised(self, ("NotLead", {"bare": (False,), "piece": piece}), led, one, (False,), piece)
        check_raised(self, ("NotLead", {"bare": piece, "piece": bare}), led, one, piece, bare)
        shifted = Web(model.called(BASE, [(dart - 4) % 12 for dart in range(12)]))
        self.assertEqual(leads(shifted), [((4, 5), (0, 1)), ((4, 5), (2, 3))])
        for value in ((False, True), (0, True), (False, 1), [0, 1]):
            check_raised(self, ("NotLead", {"bare": (4, 5), "piece": value}), led, shifted, (4, 5), value)

    def test_no_bare_tie_and_no_second_piece(self):
        for turn in (lot_model.necklace(PAIR, PAIR, PAIR), lot_model.beside(ROW, WIDE, LONG)):
            self.assertFalse(any(() in pair for pair in leads(Web(turn))))
        web = Web(lot_model.necklace(None, None, None, TRIANGLES))
        self.assertEqual([len(row) for row in model.necklaces(web.turn())], [4])
        self.assertEqual(leads(web), [])

    def test_new_each_time(self):
        for turn in GATHERED[:4] + [BASE]:
            web = Web(turn)
            check_kept(self, leads, web)
            check_kept(self, led, web, *leads(web)[0])
            self.assertEqual(web.turn(), turn)


if __name__ == "__main__":
    unittest.main()
